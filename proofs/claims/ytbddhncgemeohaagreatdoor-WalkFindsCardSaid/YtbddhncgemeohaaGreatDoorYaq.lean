/- Parts. -/
import Derived.Test.YtbddhncgemeohaaGreatDoorYac
import Derived.Test.YtbddhncgemeohaaGreatDoorYae
import Derived.Test.YtbddhncgemeohaaGreatDoorYag
import Derived.Test.YtbddhncgemeohaaGreatDoorYah
import Derived.Test.YtbddhncgemeohaaGreatDoorYal
import Derived.Test.YtbddhncgemeohaaGreatDoorYam
import Derived.Test.YtbddhncgemeohaaGreatDoorYan
import Derived.Test.YtbddhncgemeohaaGreatDoorYao
import Derived.Test.YtbddhncgemeohaaGreatDoorYap
set_option linter.unusedVariables false
set_option linter.unusedSimpArgs false
set_option maxRecDepth 100000
set_option maxHeartbeats 12800000
namespace Go.Proofs.YtbddhncgemeohaaGreatDoor.Mx
open Go.RowKit Ar Ref
structure Cl where
 c:Cf
 chunk:Int
 key:Int
 data:Int
 line:Int
 i:Int
 g:Int
 version:Int
def Cl.cells (x:Cl):Array Value:=#[.int .i64 x.c.t,.int .i64 x.c.c,.int .i64 x.c.wd,.int .i64 x.c.v,.int .i64 x.chunk,.int .i64 x.key,.int .i64 x.data,.int .i64 x.line,.int .i64 x.i,.int .i64 x.g,.int .i64 x.version]
def X8 (w:World) (b:Nat) (x:Cl):Prop:=Ob w b 132 x.cells
theorem zy {w:World} {b:Nat} {x:Cl} (h:X8 w b x):w.cell? ⟨b,0,none⟩=some (.int .i64 x.c.t)/\w.cell? ⟨b,1,none⟩=some (.int .i64 x.c.c)/\w.cell? ⟨b,2,none⟩=some (.int .i64 x.c.wd)/\w.cell? ⟨b,3,none⟩=some (.int .i64 x.c.v)/\w.cell? ⟨b,4,none⟩=some (.int .i64 x.chunk)/\w.cell? ⟨b,5,none⟩=some (.int .i64 x.key)/\w.cell? ⟨b,6,none⟩=some (.int .i64 x.data)/\w.cell? ⟨b,7,none⟩=some (.int .i64 x.line)/\w.cell? ⟨b,8,none⟩=some (.int .i64 x.i)/\w.cell? ⟨b,9,none⟩=some (.int .i64 x.g)/\w.cell? ⟨b,10,none⟩=some (.int .i64 x.version) :=
 ⟨h.cell rfl,h.cell rfl,h.cell rfl,h.cell rfl,h.cell rfl,h.cell rfl,h.cell rfl,h.cell rfl,h.cell rfl,h.cell rfl,h.cell rfl⟩
def Cl.new (c:Cf) (chunk key data:Int):Cl:=⟨c,chunk,key,data,1,-1,0,-1⟩
def Cl.sa (x:Cl):Int:=Qo x.chunk x.i
def Cl.live (x:Cl):Bool:=decide (1<=x.line) && decide (x.line<=8)
def Cl.act (x:Cl) (s:St):St :=
 if x.line=1 then s.load (wrap64 (x.chunk+6)) else if x.line=2 then s.add (wrap64 (x.chunk+1)) 1 else if x.line=3 then s.store (wrap64 (x.sa+1)) x.key
 else if x.line=4 then s.store (wrap64 (x.sa+2)) x.data else if x.line=5 then s.swap x.sa 0 1 else if x.line=6 then s.load 1 else if x.line=7 then s.swap x.sa 1 (yg x.g) else s.load x.sa
def Cl.told (x:Cl) (s:St):Int :=
 if x.line=1 then qx s.l (wrap64 (x.chunk+6)) else if x.line=2 then qx s.l (wrap64 (x.chunk+1)) else if x.line=5 then (if s.can x.sa 0 then 1 else 0) else if x.line=6 then qx s.l 1 else qx s.l x.sa
def Cl.next (x:Cl) (v:Int):Cl :=
 if x.line=1 then (if v=0 then { x with line:=2 } else { x with line:=0 })
 else if x.line=2 then (if 0<=v/\v<x.c.c then { x with line:=3,i:=v } else { x with line:=0 })
 else if x.line=3 then { x with line:=4 } else if x.line=4 then { x with line:=5 }
 else if x.line=5 then (if v=1 then { x with line:=6 } else { x with line:=0 })
 else if x.line=6 then { x with g:=v,line:=7 } else if x.line=7 then { x with line:=8 } else { x with version:=Vg v,line:=0 }
def Cl.step (x:Cl) (s:St):Cl×St:=if x.live=true then (x.next (x.told s),x.act s) else (x,s)
theorem q0x (c:Cf) (chunk key data:Int) (w:World):Calls Tryz.prog 85 #[c.val,.int .i64 chunk,.int .i64 key,.int .i64 data] w fun e w'=>∃ b,e = .returned (.pointer (some ⟨b,0,none⟩))/\w.heap.size<=b/\X8 w' b (Cl.new c chunk key data)/\Fr [] w w':=by unfold Cf.val;have F0:=(Fr.refl [] w).alloc (.cells #[.int .i64 c.t,.int .i64 c.c,.int .i64 c.wd,.int .i64 c.v] 23);obtain ⟨c0,c1,c2,c3⟩:=Pl.xj (Go.heap_alloc_new w (.cells #[.int .i64 c.t,.int .i64 c.c,.int .i64 c.wd,.int .i64 c.v] 23));go_enter Tryz.func85,Tryz.ntmps85;exact Bh
theorem q3l (x:Cl) (hl:x.line=1) (hc:x.c.Ok) (b p q:Nat) (s:St) (w:World) (h:X8 w b x) (hA:Rar w p q s) (hp:b≠p) (hq:b≠q) :
  Calls Tryz.prog 82 #[.pointer (some ⟨b,0,none⟩),.pointer (some ⟨p,0,none⟩)] w fun e w'=>e = .returned (.bool (decide ((x.next (qx s.l (wrap64 (x.chunk+6)))).line=0)))/\X8 w' b (x.next (qx s.l (wrap64 (x.chunk+6))))/\Rar w' p q (s.load (wrap64 (x.chunk+6)))/\Fr [b,p,q] w w':=by
 generalize hy:x.next (qx s.l (wrap64 (x.chunk+6)))=y;have HY:=qb hy;clear hy;obtain ⟨c0,c1,c2,c3,c4,c5,c6,c7,c8,c9,c10⟩:=zy h;have z:=h.frozen;go_enter Tryz.func82,Tryz.ntmps82;go_wp2_with fail;have k4:=qc c4;have k8:=qc c8;clear c0 c1 c2 c3 c4 c5 c6 c7 c8 c9 c10 z;refine wiq ?_;repeat (go_big_quiet_step ((go_at_call 105;exact Calls.in_same (vq _ _ _))))
 refine wpQuiet_nil ?_;intro w0 F0;rw [show Qo x.chunk x.i=x.sa from rfl];have h0:X8 w0 b x:=Ob.up h F0;have A0:=hA.kept F0;have D0:Fr [b,p,q] w w0:=F0.mono;clear k4 k8 h hA F0;obtain ⟨c0,c1,c2,c3,c4,c5,c6,c7,c8,c9,c10⟩:=zy h0;have z:=h0.frozen;go_wp2_with fail;have A1:=(Rar.set A0 hp hq (i:=7) (.int .i64 2));have h1:X8 _ b { x with line:=2 }:=(Ob.set h0 (i:=7) (.int .i64 2));have D1:=(Fr.setCell' D0 (b:=b) (i:=7) (.int .i64 2) Ma);clear c0 c1 c2 c3 c4 c5 c6 c7 c8 c9 c10 z;generalize (w0.setCell ⟨b,7,none⟩ (.int .i64 2))=w1 at *;refine (Ref.zl _ p q s _ A1).mono ?_;rintro e w5 ⟨rfl,A5,F5⟩;have h5:=Ob.kept h1 F5 Mf;have D5:=zo D1 F5 Ma;clear A1 h1 D1 F5 A0 h0 D0;obtain ⟨c0,c1,c2,c3,c4,c5,c6,c7,c8,c9,c10⟩:=zy h5;have z:=h5.frozen;generalize hv:qx s.l (wrap64 (x.chunk+6))=v at *;by_cases hv0:v=0
 ·have hn:y = { x with line:=2 }:=by rw [<- HY.out];unfold Cl.next;simp [hl,hv0]
  subst hn;exact Eb
 ·have hn:y = { x with line:=0 }:=by rw [<- HY.out];unfold Cl.next;simp [hl,hv0]
  exact Af
theorem q3f (x:Cl) (hl:x.line=2) (hc:x.c.Ok) (b p q:Nat) (s:St) (w:World) (h:X8 w b x) (hA:Rar w p q s) (hp:b≠p) (hq:b≠q) :
  Calls Tryz.prog 82 #[.pointer (some ⟨b,0,none⟩),.pointer (some ⟨p,0,none⟩)] w fun e w'=>e = .returned (.bool (decide ((x.next (qx s.l (wrap64 (x.chunk+1)))).line=0)))/\X8 w' b (x.next (qx s.l (wrap64 (x.chunk+1))))/\Rar w' p q (s.add (wrap64 (x.chunk+1)) 1)/\Fr [b,p,q] w w':=by
 generalize hy:x.next (qx s.l (wrap64 (x.chunk+1)))=y;have HY:=qb hy;clear hy;obtain ⟨c0,c1,c2,c3,c4,c5,c6,c7,c8,c9,c10⟩:=zy h;have z:=h.frozen;go_enter Tryz.func82,Tryz.ntmps82;go_wp2_with fail;have k4:=qc c4;have k8:=qc c8;clear c0 c1 c2 c3 c4 c5 c6 c7 c8 c9 c10 z;refine wiq ?_;repeat (go_big_quiet_step ((go_at_call 105;exact Calls.in_same (vq _ _ _))))
 refine wpQuiet_nil ?_;intro w0 F0;rw [show Qo x.chunk x.i=x.sa from rfl];have h0:X8 w0 b x:=Ob.up h F0;have A0:=hA.kept F0;have D0:Fr [b,p,q] w w0:=F0.mono;clear k4 k8 h hA F0;obtain ⟨c0,c1,c2,c3,c4,c5,c6,c7,c8,c9,c10⟩:=zy h0;have z:=h0.frozen;go_wp2_with fail;have A1:=(Rar.set A0 hp hq (i:=7) (.int .i64 3));have h1:X8 _ b { x with line:=3 }:=(Ob.set h0 (i:=7) (.int .i64 3));have D1:=(Fr.setCell' D0 (b:=b) (i:=7) (.int .i64 3) Ma);clear c0 c1 c2 c3 c4 c5 c6 c7 c8 c9 c10 z;generalize (w0.setCell ⟨b,7,none⟩ (.int .i64 3))=w1 at *;refine (Ref.Uo _ p q s _ 1 A1).mono ?_;rintro e w5 ⟨rfl,A5,F5⟩;have h5:=Ob.kept h1 F5 Mf;have D5:=zo D1 F5 Ma;clear A1 h1 D1 F5 A0 h0 D0;obtain ⟨c0,c1,c2,c3,c4,c5,c6,c7,c8,c9,c10⟩:=zy h5;have z:=h5.frozen;generalize hv:qx s.l (wrap64 (x.chunk+1))=v at *;by_cases hv0:v<0
 ·exact Lg
 have hv2:0<=v:=by omega
 by_cases hv1:x.c.c<=v
 ·exact Lg
 have hv3:v<x.c.c:=by omega
 have hn:y = { x with line:=3,i:=v }:=by rw [<- HY.out];unfold Cl.next;simp [hl,hv2,hv3]
 exact Af
theorem q3h (x:Cl) (hl:x.line=3) (hc:x.c.Ok) (b p q:Nat) (s:St) (w:World) (h:X8 w b x) (hA:Rar w p q s) (hp:b≠p) (hq:b≠q) :
  Calls Tryz.prog 82 #[.pointer (some ⟨b,0,none⟩),.pointer (some ⟨p,0,none⟩)] w fun e w'=>e = .returned (.bool (decide ((x.next (x.told s)).line=0)))/\X8 w' b (x.next (x.told s))/\Rar w' p q (s.store (wrap64 (x.sa+1)) x.key)/\Fr [b,p,q] w w':=by
 generalize hy:x.next (x.told s)=y;have HY:=qb hy;clear hy;obtain ⟨c0,c1,c2,c3,c4,c5,c6,c7,c8,c9,c10⟩:=zy h;have z:=h.frozen;go_enter Tryz.func82,Tryz.ntmps82;go_wp2_with fail;have k4:=qc c4;have k8:=qc c8;clear c0 c1 c2 c3 c4 c5 c6 c7 c8 c9 c10 z;refine wiq ?_;repeat (go_big_quiet_step ((go_at_call 105;exact Calls.in_same (vq _ _ _))))
 refine wpQuiet_nil ?_;intro w0 F0;rw [show Qo x.chunk x.i=x.sa from rfl];have h0:X8 w0 b x:=Ob.up h F0;have A0:=hA.kept F0;have D0:Fr [b,p,q] w w0:=F0.mono;clear k4 k8 h hA F0;obtain ⟨c0,c1,c2,c3,c4,c5,c6,c7,c8,c9,c10⟩:=zy h0;have z:=h0.frozen;go_wp2_with fail;have A1:=A0;have h1:=h0;have D1:=D0;clear c0 c1 c2 c3 c4 c5 c6 c7 c8 c9 c10 z;refine (Ref.jy _ p q s _ _ A1).mono ?_;rintro e w5 ⟨rfl,A5,F5⟩;have h5:=Ob.kept h1 F5 Mf;have D5:=zo D1 F5 Ma;clear A1 h1 D1 F5 A0 h0 D0;obtain ⟨c0,c1,c2,c3,c4,c5,c6,c7,c8,c9,c10⟩:=zy h5;have z:=h5.frozen;have hn:y = { x with line:=4 }:=by rw [<- HY.out];unfold Cl.next;simp [hl]
 exact Af
theorem q2y (x:Cl) (hl:x.line=4) (hc:x.c.Ok) (b p q:Nat) (s:St) (w:World) (h:X8 w b x) (hA:Rar w p q s) (hp:b≠p) (hq:b≠q) :
  Calls Tryz.prog 82 #[.pointer (some ⟨b,0,none⟩),.pointer (some ⟨p,0,none⟩)] w fun e w'=>e = .returned (.bool (decide ((x.next (x.told s)).line=0)))/\X8 w' b (x.next (x.told s))/\Rar w' p q (s.store (wrap64 (x.sa+2)) x.data)/\Fr [b,p,q] w w':=by
 generalize hy:x.next (x.told s)=y;have HY:=qb hy;clear hy;obtain ⟨c0,c1,c2,c3,c4,c5,c6,c7,c8,c9,c10⟩:=zy h;have z:=h.frozen;go_enter Tryz.func82,Tryz.ntmps82;go_wp2_with fail;have k4:=qc c4;have k8:=qc c8;clear c0 c1 c2 c3 c4 c5 c6 c7 c8 c9 c10 z;refine wiq ?_;repeat (go_big_quiet_step ((go_at_call 105;exact Calls.in_same (vq _ _ _))))
 refine wpQuiet_nil ?_;intro w0 F0;rw [show Qo x.chunk x.i=x.sa from rfl];have h0:X8 w0 b x:=Ob.up h F0;have A0:=hA.kept F0;have D0:Fr [b,p,q] w w0:=F0.mono;clear k4 k8 h hA F0;obtain ⟨c0,c1,c2,c3,c4,c5,c6,c7,c8,c9,c10⟩:=zy h0;have z:=h0.frozen;go_wp2_with fail;have A1:=A0;have h1:=h0;have D1:=D0;clear c0 c1 c2 c3 c4 c5 c6 c7 c8 c9 c10 z;refine (Ref.jy _ p q s _ _ A1).mono ?_;rintro e w5 ⟨rfl,A5,F5⟩;have h5:=Ob.kept h1 F5 Mf;have D5:=zo D1 F5 Ma;clear A1 h1 D1 F5 A0 h0 D0;obtain ⟨c0,c1,c2,c3,c4,c5,c6,c7,c8,c9,c10⟩:=zy h5;have z:=h5.frozen;have hn:y = { x with line:=5 }:=by rw [<- HY.out];unfold Cl.next;simp [hl]
 exact Af
theorem q4g (x:Cl) (hl:x.line=5) (hc:x.c.Ok) (b p q:Nat) (s:St) (w:World) (h:X8 w b x) (hA:Rar w p q s) (hp:b≠p) (hq:b≠q) :
  Calls Tryz.prog 82 #[.pointer (some ⟨b,0,none⟩),.pointer (some ⟨p,0,none⟩)] w fun e w'=>e = .returned (.bool (decide ((x.next (if s.can x.sa 0 then 1 else 0)).line=0)))/\X8 w' b (x.next (if s.can x.sa 0 then 1 else 0))/\Rar w' p q (s.swap x.sa 0 1)/\Fr [b,p,q] w w':=by
 generalize hy:x.next (if s.can x.sa 0 then 1 else 0)=y;have HY:=qb hy;clear hy;obtain ⟨c0,c1,c2,c3,c4,c5,c6,c7,c8,c9,c10⟩:=zy h;have z:=h.frozen;go_enter Tryz.func82,Tryz.ntmps82;go_wp2_with fail;have k4:=qc c4;have k8:=qc c8;clear c0 c1 c2 c3 c4 c5 c6 c7 c8 c9 c10 z;refine wiq ?_;repeat (go_big_quiet_step ((go_at_call 105;exact Calls.in_same (vq _ _ _))))
 refine wpQuiet_nil ?_;intro w0 F0;rw [show Qo x.chunk x.i=x.sa from rfl];have h0:X8 w0 b x:=Ob.up h F0;have A0:=hA.kept F0;have D0:Fr [b,p,q] w w0:=F0.mono;clear k4 k8 h hA F0;obtain ⟨c0,c1,c2,c3,c4,c5,c6,c7,c8,c9,c10⟩:=zy h0;have z:=h0.frozen;go_wp2_with fail;have A1:=(Rar.set A0 hp hq (i:=7) (.int .i64 6));have h1:X8 _ b { x with line:=6 }:=(Ob.set h0 (i:=7) (.int .i64 6));have D1:=(Fr.setCell' D0 (b:=b) (i:=7) (.int .i64 6) Ma);clear c0 c1 c2 c3 c4 c5 c6 c7 c8 c9 c10 z;generalize (w0.setCell ⟨b,7,none⟩ (.int .i64 6))=w1 at *;refine (Ref.yz _ p q s _ 0 1 A1).mono ?_;rintro e w5 ⟨rfl,A5,F5⟩;have h5:=Ob.kept h1 F5 Mf;have D5:=zo D1 F5 Ma;clear A1 h1 D1 F5 A0 h0 D0;obtain ⟨c0,c1,c2,c3,c4,c5,c6,c7,c8,c9,c10⟩:=zy h5;have z:=h5.frozen;cases hv:s.can x.sa 0
 ·have hn:y = { x with line:=0 }:=by rw [<- HY.out];unfold Cl.next;simp [hl,hv]
  exact Af
 ·have hn:y = { x with line:=6 }:=by rw [<- HY.out];unfold Cl.next;simp [hl,hv]
  subst hn;exact Eb
theorem q41 (x:Cl) (hl:x.line=6) (hc:x.c.Ok) (b p q:Nat) (s:St) (w:World) (h:X8 w b x) (hA:Rar w p q s) (hp:b≠p) (hq:b≠q) :
  Calls Tryz.prog 82 #[.pointer (some ⟨b,0,none⟩),.pointer (some ⟨p,0,none⟩)] w fun e w'=>e = .returned (.bool (decide ((x.next (qx s.l 1)).line=0)))/\X8 w' b (x.next (qx s.l 1))/\Rar w' p q (s.load 1)/\Fr [b,p,q] w w':=by
 generalize hy:x.next (qx s.l 1)=y;have HY:=qb hy;clear hy;obtain ⟨c0,c1,c2,c3,c4,c5,c6,c7,c8,c9,c10⟩:=zy h;have z:=h.frozen;go_enter Tryz.func82,Tryz.ntmps82;go_wp2_with fail;have k4:=qc c4;have k8:=qc c8;clear c0 c1 c2 c3 c4 c5 c6 c7 c8 c9 c10 z;refine wiq ?_;repeat (go_big_quiet_step ((go_at_call 105;exact Calls.in_same (vq _ _ _))))
 refine wpQuiet_nil ?_;intro w0 F0;rw [show Qo x.chunk x.i=x.sa from rfl];have h0:X8 w0 b x:=Ob.up h F0;have A0:=hA.kept F0;have D0:Fr [b,p,q] w w0:=F0.mono;clear k4 k8 h hA F0;obtain ⟨c0,c1,c2,c3,c4,c5,c6,c7,c8,c9,c10⟩:=zy h0;have z:=h0.frozen;go_wp2_with fail;have A1:=A0;have h1:=h0;have D1:=D0;clear c0 c1 c2 c3 c4 c5 c6 c7 c8 c9 c10 z;refine (Ref.zl _ p q s 1 A1).mono ?_;rintro e w5 ⟨rfl,A5,F5⟩;have h5:=Ob.kept h1 F5 Mf;have D5:=zo D1 F5 Ma;clear A1 h1 D1 F5 A0 h0 D0;obtain ⟨c0,c1,c2,c3,c4,c5,c6,c7,c8,c9,c10⟩:=zy h5;have z:=h5.frozen;have hn:y = { x with g:=qx s.l 1,line:=7 }:=by rw [<- HY.out];unfold Cl.next;simp [hl]
 exact Ap
theorem q47 (x:Cl) (hl:x.line=7) (hc:x.c.Ok) (b p q:Nat) (s:St) (w:World) (h:X8 w b x) (hA:Rar w p q s) (hp:b≠p) (hq:b≠q) :
  Calls Tryz.prog 82 #[.pointer (some ⟨b,0,none⟩),.pointer (some ⟨p,0,none⟩)] w fun e w'=>e = .returned (.bool (decide ((x.next (x.told s)).line=0)))/\X8 w' b (x.next (x.told s))/\Rar w' p q (s.swap x.sa 1 (yg x.g))/\Fr [b,p,q] w w':=by
 generalize hy:x.next (x.told s)=y;have HY:=qb hy;clear hy;obtain ⟨c0,c1,c2,c3,c4,c5,c6,c7,c8,c9,c10⟩:=zy h;have z:=h.frozen;go_enter Tryz.func82,Tryz.ntmps82;go_wp2_with fail;have k4:=qc c4;have k8:=qc c8;clear c0 c1 c2 c3 c4 c5 c6 c7 c8 c9 c10 z;refine wiq ?_;repeat (go_big_quiet_step ((go_at_call 105;exact Calls.in_same (vq _ _ _))))
 refine wpQuiet_nil ?_;intro w0 F0;rw [show Qo x.chunk x.i=x.sa from rfl];have h0:X8 w0 b x:=Ob.up h F0;have A0:=hA.kept F0;have D0:Fr [b,p,q] w w0:=F0.mono;clear k4 k8 h hA F0;obtain ⟨c0,c1,c2,c3,c4,c5,c6,c7,c8,c9,c10⟩:=zy h0;have z:=h0.frozen;go_wp2_with fail;refine (Vq _ _).mono ?_;rintro e _ ⟨rfl,rfl⟩;go_wp2_with fail;have A1:=A0;have h1:=h0;have D1:=D0;clear c0 c1 c2 c3 c4 c5 c6 c7 c8 c9 c10 z;refine (Ref.yz _ p q s _ 1 _ A1).mono ?_;rintro e w5 ⟨rfl,A5,F5⟩;have h5:=Ob.kept h1 F5 Mf;have D5:=zo D1 F5 Ma;clear A1 h1 D1 F5 A0 h0 D0;obtain ⟨c0,c1,c2,c3,c4,c5,c6,c7,c8,c9,c10⟩:=zy h5;have z:=h5.frozen;have hn:y = { x with line:=8 }:=by rw [<- HY.out];unfold Cl.next;simp [hl]
 exact Af
theorem q51 (x:Cl) (hl:x.line=8) (hc:x.c.Ok) (b p q:Nat) (s:St) (w:World) (h:X8 w b x) (hA:Rar w p q s) (hp:b≠p) (hq:b≠q) :
  Calls Tryz.prog 82 #[.pointer (some ⟨b,0,none⟩),.pointer (some ⟨p,0,none⟩)] w fun e w'=>e = .returned (.bool (decide ((x.next (qx s.l x.sa)).line=0)))/\X8 w' b (x.next (qx s.l x.sa))/\Rar w' p q (s.load x.sa)/\Fr [b,p,q] w w':=by
 generalize hy:x.next (qx s.l x.sa)=y;have HY:=qb hy;clear hy;obtain ⟨c0,c1,c2,c3,c4,c5,c6,c7,c8,c9,c10⟩:=zy h;have z:=h.frozen;go_enter Tryz.func82,Tryz.ntmps82;go_wp2_with fail;have k4:=qc c4;have k8:=qc c8;clear c0 c1 c2 c3 c4 c5 c6 c7 c8 c9 c10 z;refine wiq ?_;repeat (go_big_quiet_step ((go_at_call 105;exact Calls.in_same (vq _ _ _))))
 refine wpQuiet_nil ?_;intro w0 F0;rw [show Qo x.chunk x.i=x.sa from rfl];have h0:X8 w0 b x:=Ob.up h F0;have A0:=hA.kept F0;have D0:Fr [b,p,q] w w0:=F0.mono;clear k4 k8 h hA F0;obtain ⟨c0,c1,c2,c3,c4,c5,c6,c7,c8,c9,c10⟩:=zy h0;have z:=h0.frozen;go_wp2_with fail;have A1:=A0;have h1:=h0;have D1:=D0;clear c0 c1 c2 c3 c4 c5 c6 c7 c8 c9 c10 z;refine (Ref.zl _ p q s _ A1).mono ?_;rintro e w5 ⟨rfl,A5,F5⟩;have h5:=Ob.kept h1 F5 Mf;have D5:=zo D1 F5 Ma;clear A1 h1 D1 F5 A0 h0 D0;obtain ⟨c0,c1,c2,c3,c4,c5,c6,c7,c8,c9,c10⟩:=zy h5;have z:=h5.frozen;go_wp2_with fail;refine (Ve _ _).mono ?_;rintro e _ ⟨rfl,rfl⟩;have hn:y = { x with version:=Vg (qx s.l x.sa),line:=0 }:=by rw [<- HY.out];unfold Cl.next;simp [hl]
 subst hn;go_wp2_with fail;go_ret;exact ⟨rfl,(Ob.set (Ob.set h5 _) (i:=7) (.int .i64 0)),(Rar.set (Rar.set A5 hp hq _) hp hq (i:=7) (.int .i64 0)),(Fr.setCell' (Fr.setCell' D5 _ Ma) (b:=b) (i:=7) (.int .i64 0) Ma)⟩
theorem q4n (x:Cl) (hl:x.live=false) (b p q:Nat) (w:World) (h:X8 w b x) :
  Calls Tryz.prog 82 #[.pointer (some ⟨b,0,none⟩),.pointer (some ⟨p,0,none⟩)] w fun e w'=>e = .returned (.bool (decide (x.line=0)))/\Fr [] w w':=by
 obtain ⟨c0,c1,c2,c3,c4,c5,c6,c7,c8,c9,c10⟩:=zy h;unfold Cl.live at hl;have l1:x.line≠1:=by intro h;rw [h] at hl;simp at hl
 have l2:x.line≠2:=by intro h;rw [h] at hl;simp at hl
 have l3:x.line≠3:=by intro h;rw [h] at hl;simp at hl
 have l4:x.line≠4:=by intro h;rw [h] at hl;simp at hl
 have l5:x.line≠5:=by intro h;rw [h] at hl;simp at hl
 have l6:x.line≠6:=by intro h;rw [h] at hl;simp at hl
 have l7:x.line≠7:=by intro h;rw [h] at hl;simp at hl
 have l8:x.line≠8:=by intro h;rw [h] at hl;simp at hl
 clear hl;go_enter Tryz.func82,Tryz.ntmps82;go_wp2_with fail;have k4:=qc c4;have k8:=qc c8;have hc7:=c7;clear c0 c1 c2 c3 c4 c5 c6 c7 c8 c9 c10;refine wiq ?_;repeat (go_big_quiet_step ((go_at_call 105;exact Calls.in_same (vq _ _ _))))
 refine wpQuiet_nil ?_;intro w0 F0;have c7:=F0.cell hc7 Ma;exact Hn
theorem Tx (x:Cl) (hc:x.c.Ok) (b p q:Nat) (s:St) (w:World) (h:X8 w b x) (hA:Rar w p q s) (hp:b≠p) (hq:b≠q) :
  Calls Tryz.prog 82 #[.pointer (some ⟨b,0,none⟩),.pointer (some ⟨p,0,none⟩)] w fun e w'=>e = .returned (.bool (decide ((x.step s).1.line=0)))/\X8 w' b (x.step s).1/\Rar w' p q (x.step s).2/\Fr [b,p,q] w w':=by
 unfold Cl.step;cases hl:x.live with
 | false=>exact (q4n x hl b p q w h).mono Mt
 | true =>
  unfold Cl.live at hl;simp only [Bool.and_eq_true,decide_eq_true_eq] at hl;have hl':x.line=1\/x.line=2\/x.line=3\/x.line=4\/x.line=5\/x.line=6\/x.line=7\/x.line=8:=by omega
  rw [qg rfl];rcases hl' with l | l | l | l | l | l | l | l
  ·rw [show x.act s=s.load (wrap64 (x.chunk+6)) by unfold Cl.act;simp [l],show x.told s=qx s.l (wrap64 (x.chunk+6)) by unfold Cl.told;simp [l]];exact q3l x l hc b p q s w h hA hp hq
  ·rw [show x.act s=s.add (wrap64 (x.chunk+1)) 1 by unfold Cl.act;simp [l],show x.told s=qx s.l (wrap64 (x.chunk+1)) by unfold Cl.told;simp [l]];exact q3f x l hc b p q s w h hA hp hq
  ·rw [show x.act s=s.store (wrap64 (x.sa+1)) x.key by unfold Cl.act;simp [l]];exact q3h x l hc b p q s w h hA hp hq
  ·rw [show x.act s=s.store (wrap64 (x.sa+2)) x.data by unfold Cl.act;simp [l]];exact q2y x l hc b p q s w h hA hp hq
  ·rw [show x.act s=s.swap x.sa 0 1 by unfold Cl.act;simp [l],show x.told s=(if s.can x.sa 0 then 1 else 0) by unfold Cl.told;simp [l]];exact q4g x l hc b p q s w h hA hp hq
  ·rw [show x.act s=s.load 1 by unfold Cl.act;simp [l],show x.told s=qx s.l 1 by unfold Cl.told;simp [l]];exact q41 x l hc b p q s w h hA hp hq
  ·rw [show x.act s=s.swap x.sa 1 (yg x.g) by unfold Cl.act;simp [l]];exact q47 x l hc b p q s w h hA hp hq
  ·rw [show x.act s=s.load x.sa by unfold Cl.act;simp [l],show x.told s=qx s.l x.sa by unfold Cl.told;simp [l]];exact q51 x l hc b p q s w h hA hp hq
end Go.Proofs.YtbddhncgemeohaaGreatDoor.Mx
namespace Go.Proofs.YtbddhncgemeohaaGreatDoor.Mx
open Go.RowKit Ar Ref Og Mp
structure Gt where
 key:Int
 c:Cf
 w:Wk
 l:Option Lok
 over:Bool
def Gt.new (c:Cf) (key:Int):Gt:=⟨key,c,Wk.new c key,none,false⟩
def Gt.step (g:Gt) (s:St):Gt×St :=
 if g.over=true then (g,s) else
 match g.l with
 | some x=>({ g with l:=some (x.step s).1,over:=decide ((x.step s).1.line=0) },(x.step s).2)
 | none=>(if (g.w.step s).1.line=0 then { g with w:=(g.w.step s).1,l:=some (Lok.new g.c (g.w.step s).1.at_ g.key g.key 1073741824) } else { g with w:=(g.w.step s).1 },(g.w.step s).2)
def Y3:An:=⟨0,false,0,0,0,[]⟩
def Xy (l:List It) (key:Int):An :=
 match l.find? (fun y=>y.k == key) with
 | some y=>⟨0,decide (0<=q3d y.d),max 0 (q3d y.d),qae y.d,0,[]⟩
 | none=>⟨0,false,0,-1,0,[]⟩
def Gt.answer (g:Gt):An:=if g.over=true then (match g.l with | some x=>Xy x.l g.key | none=>Y3) else Y3
structure Sn where
 c:Cf
 t:Int
 seq:Int
 lo:Int
 hi:Int
 k:Km
 w:Option Wk
 l:Option Lok
 line:Int
 at_:Int
 n:Int
 items:List It
def Sn.new (c:Cf) (t seq lo hi:Int):Sn:=⟨c,t,seq,lo,hi,Km.new c t seq,none,none,10,0,0,[]⟩
def Sn.chunk (x:Sn) (at_:Int):Sn:={ x with at_:=at_,line:=1,l:=some (Lok.new x.c at_ x.lo x.hi x.k.version) }
def Xh:List It->It->List It
 | [],x=>[x]
 | y :: r,x=>if y.k<x.k then y :: Xh r x else if y.k=x.k then x :: r else x :: y :: r
def Sn.step (x:Sn) (s:St):Sn×St :=
 if x.line=10 then
  (if x.hi<x.lo then ({ x with line:=0 },s)
   else (if (x.k.step s).1.line=0 then { x with k:=(x.k.step s).1,w:=some (Wk.new x.c x.lo),line:=if (x.k.step s).1.e=0 then 11 else 0 } else { x with k:=(x.k.step s).1 },(x.k.step s).2))
 else if x.line=11 then
  (match x.w with
   | some y=>(if (y.step s).1.line=0 then ({ x with w:=some (y.step s).1 }:Sn).chunk (y.step s).1.at_ else { x with w:=some (y.step s).1 },(y.step s).2)
   | none=>(x,s))
 else if x.line=1 then
  (match x.l with
   | some y=>(if (y.step s).1.line=0 then { x with l:=some (y.step s).1,items:=(y.step s).1.l.foldl Xh x.items,line:=2 } else { x with l:=some (y.step s).1 },(y.step s).2)
   | none=>(x,s))
 else if x.line=2 then
  ({ x with n:=atW (qx s.l (wrap64 (x.at_+2))),line:=if atW (qx s.l (wrap64 (x.at_+2)))=0 then 4 else 3 },s.load (wrap64 (x.at_+2)))
 else if x.line=3 then
  (if qx s.l (wrap64 x.n)<=x.hi then x.chunk x.n else { x with line:=4 },s.load (wrap64 x.n))
 else if x.line=4 then ({ x with line:=0 },s.store (qab x.t) (Qi x.seq 0))
 else (x,s)
def V3 (l:List It):List (Int×Int):=l.filterMap fun y=>if 0<=q3d y.d then some (y.k,q3d y.d) else none
def Sn.answer (x:Sn):An :=
 if x.line≠0 then Y3 else if x.k.e≠0 then ⟨x.k.e,false,0,0,0,[]⟩ else ⟨0,false,0,-1,x.k.version,V3 x.items⟩
structure Bd where
 c:Cf
 chunk:Int
 mate:Int
 after:Int
 versions:List Int
 line:Int
 i:Int
 mn:Int
 at_:Int
 x:It
 l:List It
 groups:List (List It)
 w:List (Int×Int)
 repl:Int
 e:Int
def Bd.new (c:Cf) (chunk mate after:Int) (vs:List Int):Bd:=⟨c,chunk,mate,after,vs,1,0,0,0,⟨0,0,0⟩,[],[],[],0,0⟩
def Bd.on (b:Bd):Bd:=if Q8 b.c b.mate<=b.i+1 then { b with i:=b.i+1,groups:=vu (J6 b.l b.versions) b.c.c,line:=5 } else { b with i:=b.i+1,line:=2 }
def Bd.sa (b:Bd):Int:=yu b.c b.chunk b.mate b.i
def Bd.nth (b:Bd):Int×Int:=b.w.getD b.i.toNat (0,0)
def Bd.five (b:Bd) (v:Int):Bd :=
 let n:=(b.groups.length:Int) * z8 b.c
 let l:=yt b.c (wrap64 v) b.after b.mn b.groups
 if v<1\/b.c.wd - n<v\/l=[] then { b with at_:=v,e:=14,line:=0 } else { b with at_:=v,w:=je l,i:=0,line:=6 }
def Bd.step (b:Bd) (s:St):Bd×St :=
 if b.line=1 then (({ b with mn:=qx s.l (wrap64 b.chunk),i:=-1 }:Bd).on,s.load (wrap64 b.chunk))
 else if b.line=2 then (let b':Bd:={ b with x:=⟨0,Vg (qx s.l b.sa),0⟩,line:=3 };if qx s.l b.sa<3 then b'.on else b',s.load b.sa)
 else if b.line=3 then ({ b with x:=⟨qx s.l (wrap64 (b.sa+1)),b.x.v,b.x.d⟩,line:=4 },s.load (wrap64 (b.sa+1)))
 else if b.line=4 then (let x':It:=⟨b.x.k,b.x.v,qx s.l (wrap64 (b.sa+2))⟩;({ b with x:=x',l:=b.l++[x'] }:Bd).on,s.load (wrap64 (b.sa+2)))
 else if b.line=5 then (b.five (qx s.l 2),s.add 2 (b.groups.length * z8 b.c))
 else if b.line=6 then ({ b with i:=b.i+1,line:=if (b.w.length:Int)<=b.i+1 then 7 else 6 },s.store b.nth.1 b.nth.2)
 else if b.line=7 then ({ b with line:=8 },s.swap (wrap64 (b.chunk+5)) 0 b.at_)
 else if b.line=8 then ({ b with repl:=qx s.l (wrap64 (b.chunk+5)),line:=0 },s.load (wrap64 (b.chunk+5)))
 else (b,s)
def Ld.three (x:Ld):Int×Int×Int:=if x.line≠0 then (0,0,0) else if x.alone=true then (x.l,0,x.after) else (x.l,x.n,x.after)
structure Fm where
 chunk:Int
 part:Int
 l:Ld
 s:Option Sl
 n:Option Nd
 b:Option Bd
 p:Option Sp
 repl:Int
def J4 (ds:List Int):Bool:=match ds with | []=>false | d :: _=>decide (bits .and .i64 d 1=1)
def Fm.new (c:Cf) (chunk:Int) (draw:Bool):Fm:=⟨chunk,1,Ld.new c chunk draw,none,none,none,none,0⟩
def Fm.splice (f:Fm) (c:Cf) (repl:Int):Fm:={ f with repl:=repl,part:=6,p:=some (Sp.new c f.l.three.1 f.l.three.2.1 repl) }
structure Md where
 c:Cf
 draws:List Int
 f:List Fm
 e:Int
def Md.new (c:Cf) (chunk:Int) (ds:List Int):Md:=⟨c,ds,[Fm.new c chunk (J4 ds)],0⟩
def Nd.new (c:Cf):Nd:=⟨c,0,1,0,0,.slice none 0 0,[]⟩
def Md.step (m:Md) (s:St):Md×St :=
 match m.f.getLast? with
 | none=>(m,s)
 | some f =>
  let put (g:Fm):Md:={ m with f:=m.f.dropLast++[g] }
  if f.part=1 then
   let l:=(f.l.step s).1
   let m':Md:=if l.drew=true/\f.l.drew=false/\m.draws≠[] then { m with draws:=m.draws.tail } else m
   ({ m' with f:=m.f.dropLast++[if l.line=0 then { f with l:=l,part:=2,s:=some (Sl.new m.c l.three.1 l.three.2.1) } else { f with l:=l }] },(f.l.step s).2)
  else if f.part=2 then
   (match f.s with
    | some x=>(put { f with s:=some (x.step s).1,part:=if (x.step s).1.line=0 then 3 else 2 },(x.step s).2)
    | none=>(m,s))
  else if f.part=3 then
   (let r:=qx s.l (wrap64 (f.l.three.1+5))
    put (if r=0 then { f with part:=4 } else f.splice m.c r),s.load (wrap64 (f.l.three.1+5)))
  else if f.part=4 then
   (match f.n with
    | none=>(put { f with n:=some (Nd.new m.c) },s.load 1)
    | some x=>(put (if (x.step s).1.line=0 then { f with n:=some (x.step s).1,part:=5,b:=some (Bd.new m.c f.l.three.1 f.l.three.2.1 f.l.three.2.2 (x.step s).1.l) } else { f with n:=some (x.step s).1 }),(x.step s).2))
  else if f.part=5 then
   (match f.b with
    | some x=>(if (x.step s).1.line=0 then (if (x.step s).1.e=0 then put (({ f with b:=some (x.step s).1 }:Fm).splice m.c (x.step s).1.repl) else { m with e:=(x.step s).1.e,f:=[] }) else put { f with b:=some (x.step s).1 },(x.step s).2)
    | none=>(m,s))
  else if f.part=6 then
   (match f.p with
    | some x=>(if (x.step s).1.line=0 then (if (x.step s).1.stuck=0 then { m with f:=m.f.dropLast } else { m with f:=m.f.dropLast++[({ f with p:=some (x.step s).1 }:Fm).splice m.c f.repl,Fm.new m.c (x.step s).1.stuck (J4 m.draws)] }) else put { f with p:=some (x.step s).1 },(x.step s).2)
    | none=>(m,s))
  else (m,s)
structure Pt where
 c:Cf
 key:Int
 data:Int
 draws:List Int
 w:Wk
 x:Option Cl
 m:Option Md
 over:Bool
 version:Int
 e:Int
 placed:Bool
def Pt.new (c:Cf) (key data:Int) (ds:List Int):Pt:=⟨c,key,data,ds,Wk.new c key,none,none,false,0,0,false⟩
def Pt.step (p:Pt) (s:St):Pt×St :=
 if p.over=true then (p,s) else
 match p.m with
 | some m=>(if (m.step s).1.f=[] then { p with placed:=false,draws:=(m.step s).1.draws,e:=(m.step s).1.e,over:=decide ((m.step s).1.e≠0),m:=none,x:=none,w:=Wk.new p.c p.key } else { p with placed:=false,draws:=(m.step s).1.draws,m:=some (m.step s).1 },(m.step s).2)
 | none =>
  match p.x with
  | some x =>
   (let y:=(x.step s).1
    let p':Pt:={ p with x:=some y,placed:=decide (x.i<0) && decide (0<=y.i) }
    if y.line=0 then (if 0<=y.version then { p' with version:=y.version,over:=true } else { p' with m:=some (Md.new p.c y.chunk p.draws) }) else p',(x.step s).2)
  | none=>(if (p.w.step s).1.line=0 then { p with placed:=false,w:=(p.w.step s).1,x:=some (Cl.new p.c (p.w.step s).1.at_ p.key p.data) } else { p with placed:=false,w:=(p.w.step s).1 },(p.w.step s).2)
structure Th where
 next:Int
 busy:Bool
 scans:Int
 p:Option Pt
 g:Option Gt
 s:Option Sn
def Th.new:Th:=⟨0,false,0,none,none,none⟩
structure Ev where
 th:Int
 ix:Int
 op:O
 begin_:Int
 end_:Int
 steps:Int
 alloc:Int
 at_:Int
 version:Int
 ans:An
structure Mc where
 c:Cf
 ops:List (List O)
 draws:List Int
 a:St
 t:List Th
 now:Int
 idle:Int
 ticks:List Int
 e:List Ev
def Mc.th (m:Mc) (t:Int):Th:=m.t.getD t.toNat Th.new
def Mc.opsOf (m:Mc) (t:Int):List O:=if t<0 then [] else m.ops.getD t.toNat []
def Mc.over (m:Mc) (t:Int):Bool:=decide (t<0) || decide ((m.t.length:Int)<=t) || (!(m.th t).busy && decide (((m.opsOf t).length:Int)<=(m.th t).next))
def vz (t i:Int):Int:=if t<0\/8<=t\/i<0\/1000<=i then -1 else t * 1000+i
def ofP (w:Int):Int×Int:=if w<0\/8000<=w then (-1,-1) else (w / 1000,w % 1000)
def Mc.drawsOf (m:Mc) (w:Int):List Int:=if m.draws=[] then [] else m.draws.drop (Int.tmod (ofP w).2 m.draws.length).toNat
def Mc.begun (m:Mc) (t:Int):Th :=
 let x:=m.th t
 let o:=(m.opsOf t).getD x.next.toNat (0,0,0,0)
 let w:=vz t x.next
 if o.1=1 then ⟨x.next+1,true,x.scans,some (Pt.new m.c o.2.1 (Kv w o.2.2.1) (m.drawsOf w)),none,none⟩
 else if o.1=2 then ⟨x.next+1,true,x.scans,some (Pt.new m.c o.2.1 (Kv w (-1)) (m.drawsOf w)),none,none⟩
 else if o.1=3 then ⟨x.next+1,true,x.scans,none,some (Gt.new m.c o.2.1),none⟩
 else ⟨x.next+1,true,x.scans+1,none,none,some (Sn.new m.c t (x.scans+1) o.2.1 o.2.2.2)⟩
def Mc.begins (m:Mc) (t:Int):Mc :=
 let x:=m.th t
 { m with t:=m.t.set t.toNat (m.begun t),e:=m.e++[⟨t,x.next,(m.opsOf t).getD x.next.toNat (0,0,0,0),m.now,-1,0,-1,-1,-1,Y3⟩] }
def Mc.event (m:Mc) (t i:Int):Option Nat:=m.e.findIdx? fun x=>x.th == t && x.ix == i
def qcs (p:Pt):An:=if p.e=0 then ⟨0,false,0,-1,p.version,[]⟩ else ⟨p.e,false,0,0,0,[]⟩
def qak:Ev:=⟨0,0,(0,0,0,0),0,0,0,0,0,0,Y3⟩
def Mc.steps (m:Mc) (t:Int) (k:Nat):Mc :=
 let x:=m.th t
 let v:=m.e.getD k qak
 match x.p with
 | some p =>
  let p':=(p.step m.a).1
  let v1:Ev:=if p'.placed=true then { v with alloc:=m.now } else v
  let v2:Ev:=if p'.over=true then { v1 with ans:=qcs p',steps:=v1.steps+1,end_:=m.now } else { v1 with steps:=v1.steps+1 }
  { m with a:=(p.step m.a).2,t:=m.t.set t.toNat { x with p:=some p',busy:=!p'.over && x.busy },e:=m.e.set k v2 }
 | none =>
  match x.g with
  | some g =>
   let g':=(g.step m.a).1
   let v1:Ev:={ v with ans:=g'.answer,steps:=v.steps+1 }
   { m with a:=(g.step m.a).2,t:=m.t.set t.toNat { x with g:=some g',busy:=!g'.over && x.busy },e:=m.e.set k (if g'.over=true then { v1 with end_:=m.now } else v1) }
  | none =>
   match x.s with
   | some y =>
    let y':=(y.step m.a).1
    let v1:Ev:={ v with ans:=y'.answer,steps:=v.steps+1 }
    { m with a:=(y.step m.a).2,t:=m.t.set t.toNat { x with s:=some y',busy:=!decide (y'.line=0) && x.busy },e:=m.e.set k (if y'.line=0 then { v1 with end_:=m.now } else v1) }
   | none=>m
def Mc.notes (m:Mc):Mc :=
 let l:=m.a.a
 let m1:Mc:=if l.kind=4/\l.at_=1 then { m with ticks:=m.ticks++[m.now] } else m
 if l.kind=3/\l.ok=true/\l.old=1/\3<=l.new then
  match m1.event (ofP (qae (qx m.a.l (wrap64 (l.at_+2))))).1 (ofP (qae (qx m.a.l (wrap64 (l.at_+2))))).2 with
  | some k=>{ m1 with e:=m1.e.set k { (m1.e.getD k qak) with at_:=m.now,version:=Vg l.new } }
  | none=>m1
 else m1
def Mc.pick (m:Mc) (t:Int):Mc :=
 if m.over t=true then { m with idle:=m.idle+1,now:=m.now+1 }
 else
  let m1:=if (m.th t).busy=true then m else m.begins t
  match m1.event t ((m1.th t).next - 1) with
  | some k =>
   let m2:=m1.steps t k
   let m3:=if m1.a.n<m2.a.n then m2.notes else m2
   { m3 with now:=m3.now+1 }
  | none=>m1
end Go.Proofs.YtbddhncgemeohaaGreatDoor.Mx
namespace Go.Proofs.YtbddhncgemeohaaGreatDoor.Mx
open Go.RowKit Ar Ref
structure Xr (x:Lok):Prop where
 c:x.c.Ok
 i0:0<=x.i
 i1:x.i<=16
 len:(x.l.length:Int)<=x.i
 one:x.line=1->x.l=[]
 two:2<=x.line->x.i<x.count
 cnt:x.count<=x.c.c
theorem Xr.new {c:Cf} (hc:c.Ok) (chunk lo hi most:Int):Xr (Lok.new c chunk lo hi most):=by have h1:=hc.c2;have h2:=hc.t1;exact ⟨hc,by simp [Lok.new],by simp [Lok.new],by simp [Lok.new],fun _=>rfl,by simp [Lok.new],by simp [Lok.new];omega⟩
theorem q0g (l:List It) (x:It):(q1f l x).length=l.length+1:=by
 induction l with
 | nil=>rfl
 | cons y r ih=>unfold q1f;split <;> simp [ih]
theorem q0a (l:List It) (x:It):(q0k l x).length<=l.length+1:=by
 unfold q0k;split
 ·simp
 ·rw [q0g];omega
theorem Zn {x:Lok} (hc:x.c.Ok) (h1:-1<=x.i) (h2:x.i<x.count\/x.i = -1) (h3:(x.l.length:Int)<=x.i+1) (h4:x.count<=x.c.c):Xr x.on:=by
 have:=hc.c16;unfold Lok.on;split
 ·exact ⟨hc,by simp only;omega,by simp only;omega,by simp only;omega,by simp,by simp,h4⟩
 ·exact ⟨hc,by simp only;omega,by simp only;omega,by simp only;omega,by simp,by simp only;intro;omega,h4⟩
theorem J3 {x:Lok} (hc:x.c.Ok) (h1:0<=x.i) (h2:x.i<x.count) (h3:(x.l.length:Int)<=x.i) (h4:x.count<=x.c.c):Xr x.seven:=by
 have:=hc.c16;unfold Lok.seven;split
 ·exact Zn hc Mr (.inl h2) Mr h4
 ·exact ⟨hc,h1,by simp only;omega,h3,by simp,fun _=>h2,h4⟩
theorem q0n {x:Lok} (h:Xr x) (v:Int) (hl:x.live=true):Xr (x.next v):=by
 obtain ⟨hc,i0,i1,len,one,two,cnt⟩:=h;have h16:=hc.c16;have hc2:=hc.c2;have ht1:=hc.t1;unfold Lok.live at hl;simp only [Bool.and_eq_true,decide_eq_true_eq] at hl;unfold Lok.next;split
 ·rename_i e;have hl0:=one e;exact Zn hc Mr (.inr rfl) (by simp only [hl0];simp) Mr
 ·have h2:=two Ly;split
  ·split
   ·exact Fg
   ·exact Fu
  ·split
   ·split
    ·exact Fg
    ·split
     ·exact Fu
     ·exact J3 hc i0 h2 len cnt
   ·split
    ·exact Fu
    ·split
     ·exact Fu
     ·split
      ·split
       ·exact Fg
       ·exact J3 hc i0 h2 len cnt
      ·exact Zn hc Mr (.inl h2) (by have:=q0a x.l ⟨x.k,Vg x.s,v⟩;simp only;omega) cnt
theorem Xr.step {x:Lok} (h:Xr x) (s:St):Xr (x.step s).1:=by
 unfold Lok.step;split
 ·rename_i hl;exact q0n h _ hl
 ·exact h
def Lok.as (x:Lok) (v:Value):Lok:={ x with lv:=v }
theorem q52 (x:Lok) (v:Value):(x.as v).on=x.on.as v:=by unfold Lok.on Lok.as;simp only;split <;> rfl
theorem q2i (x:Lok) (v:Value):(x.as v).seven=x.seven.as v:=by
 unfold Lok.seven;rw [show (x.as v).skips=x.skips from rfl];split
 ·exact q52 { x with line:=7 } v
 ·rfl
theorem qbe (x:Lok) (v:Value) (u:Int):(x.as v).next u=(x.next u).as v:=by
 unfold Lok.next;rw [show (x.as v).line=x.line from rfl,show (x.as v).lo=x.lo from rfl,show (x.as v).hi=x.hi from rfl,show (x.as v).s=x.s from rfl];split
 ·exact q52 { x with count:=max 0 (min u x.c.c),i:=-1 } v
 ·split
  ·split
   ·exact q52 { x with s:=u,line:=3 } v
   ·rfl
  ·split
   ·split
    ·exact q52 { x with k:=u } v
    ·split
     ·rfl
     ·exact q2i { x with k:=u } v
   ·split
    ·rfl
    ·split
     ·rfl
     ·split
      ·split
       ·exact q52 { x with s:=u } v
       ·exact q2i { x with s:=u } v
      ·exact q52 { x with l:=q0k x.l ⟨x.k,Vg x.s,u⟩ } v
theorem qbd (x:Lok) (v:Value) (s:St):(x.as v).step s=((x.step s).1.as v,(x.step s).2):=by unfold Lok.step;rw [show (x.as v).live=x.live from rfl,show (x.as v).told s=x.told s from rfl,show (x.as v).act s=x.act s from rfl,qbe];split <;> rfl
def Stp (w:World) (At:World->List Nat->Prop) (B:List Nat) (p q:Nat) (t:St) (over:Bool) (e:Ending) (w':World):Prop :=
 e = .returned (.bool over)/\(∃ B',At w' B'/\∀ k,k∈B'->k∈B\/w.heap.size<=k)/\Rar w' p q t/\Fr (p :: q :: B) w w'
theorem Stp.of {w w':World} {At:World->List Nat->Prop} {B B':List Nat} {p q:Nat} {t:St} {over:Bool} {e:Ending} (h1:e = .returned (.bool over)) (h2:At w' B') (h3:∀ k,k∈B'->k∈B\/w.heap.size<=k) (h4:Rar w' p q t) (h5:Fr (p :: q :: B) w w'):Stp w At B p q t over e w':=⟨h1,⟨B',h2,h3⟩,h4,h5⟩
def vh:Option Nat->Value
 | none=>.pointer none
 | some b=>.pointer (some ⟨b,0,none⟩)
def Mk (w:World) (At:World->List Nat->Nat->Prop) (e:Ending) (w':World):Prop:=∃ b B,e = .returned (.pointer (some ⟨b,0,none⟩))/\At w' B b/\(∀ k,k∈B->w.heap.size<=k)/\Fr [] w w'
def q06 (w:World) (B:List Nat) (b:Nat) (x:Lok):Prop:=∃ lv,vn w b (x.as lv)/\Sq fT w lv x.l/\b∉lv.ownBlock.toList/\B=b :: lv.ownBlock.toList/\∀ k,k∈B->k<w.heap.size
theorem q06.lt {w:World} {B:List Nat} {b:Nat} {x:Lok} (h:q06 w B b x):∀ k,k∈B->k<w.heap.size:=by obtain ⟨lv,h1,h2,h3,h4,h5⟩:=h;exact h5
theorem q06.kept {S:List Nat} {w w':World} {B:List Nat} {b:Nat} {x:Lok} (h:q06 w B b x) (f:Fr S w w') (hS:∀ k,k∈B->k∉S):q06 w' B b x:=by obtain ⟨lv,h1,h2,h3,rfl,h5⟩:=h;exact ⟨lv,Ob.kept h1 f (hS b Ma),h2.kept f (fun g hg=>hS g (by simp only [List.mem_cons];exact .inr hg)),h3,rfl,fun k hk=>ql (h5 k hk) f.size⟩
theorem q06.new {w:World} {b:Nat} {c:Cf} {chunk lo hi most:Int} (h:vn w b (Lok.new c chunk lo hi most)):q06 w [b] b (Lok.new c chunk lo hi most) :=
 ⟨.slice none 0 0,h,Sq.nil w,by simp [Value.ownBlock],by simp [Value.ownBlock],fun k hk=>by simp at hk;subst hk;exact Ob.lt h⟩
theorem Qh {α:Type} {f:α->List Value} {w:World} {v:Value} {xs:List α} (h:Sq f w v xs) (hne:xs≠[]):∀ g,g∈v.ownBlock.toList->g<w.heap.size:=by
 obtain ⟨a,cap,rfl,-,-,h6⟩:=h;rcases h6 with h0 | ⟨g,off,rfl,hg,-⟩
 ·exact absurd (List.eq_nil_of_length_eq_zero h0) hne
 ·intro k hk;simp [Value.ownBlock] at hk;subst hk;exact hg
theorem q61 (x:Lok) (hx:Xr x) (B:List Nat) (b p q:Nat) (s:St) (w:World) (h:q06 w B b x) (hA:Rar w p q s) (hp:p∉B) (hq:q∉B) :
  Calls Tryz.prog 86 #[.pointer (some ⟨b,0,none⟩),.pointer (some ⟨p,0,none⟩)] w (Stp w (fun w' B'=>q06 w' B' b (x.step s).1) B p q (x.step s).2 (decide ((x.step s).1.line=0))):=by
 obtain ⟨lv,h1,h2,h3,rfl,h5⟩:=h;have hbl:=h5 b Ma;simp only [List.mem_cons,not_or] at hp hq;have h6:=hx.i1;have h7:=hx.i0;have h8:=hx.len;refine (q6y (x.as lv) hx.c ⟨by show -1<=x.i;omega,by show x.i<=100;omega⟩ (by show x.l.length<=900;omega) b p q s w h1 hA (Ne.symm hp.1) (Ne.symm hq.1) h2 h3 hp.2 hq.2).mono ?_;rintro e w' ⟨he,⟨lv',k1,k2,k3⟩,k4,k5⟩;rw [qbd] at he k1 k2 k3 k4
 have hb':b∉lv'.ownBlock.toList:=by
  rcases k3 with k3 | ⟨-,k3⟩
  ·rw [k3];exact h3
  ·intro hi;have:=k3 b hi;omega
 refine Stp.of he (B':=b :: lv'.ownBlock.toList) ⟨lv',k1,k2,hb',rfl,fun k hk=>?_⟩ (fun k hk=>?_) k4 (k5.mono O1)
 ·rcases List.mem_cons.1 hk with rfl | hk
  ·exact Ob.lt k1
  ·rcases k3 with k3 | ⟨hne,-⟩
   ·rw [k3] at hk;exact ql (h5 k P9) k5.size
   ·exact Qh k2 hne k hk
 ·rcases List.mem_cons.1 hk with rfl | hk
  ·exact .inl Ma
  ·rcases k3 with k3 | ⟨-,k3⟩
   ·rw [k3] at hk;exact .inl P9
   ·exact .inr (k3 k hk)
def Gt.cells (g:Gt) (bw:Nat) (lp:Option Nat):Array Value:=#[.int .i64 g.key,.int .i64 g.c.t,.int .i64 g.c.c,.int .i64 g.c.wd,.int .i64 g.c.v,.pointer (some ⟨bw,0,none⟩),vh lp,.bool g.over]
def qaq (w:World) (b:Nat) (g:Gt) (bw:Nat) (lp:Option Nat):Prop:=Ob w b 122 (g.cells bw lp)
theorem Za {w:World} {b bw:Nat} {lp:Option Nat} {g:Gt} (h:qaq w b g bw lp):w.cell? ⟨b,0,none⟩=some (.int .i64 g.key)/\w.cell? ⟨b,1,none⟩=some (.int .i64 g.c.t)/\w.cell? ⟨b,2,none⟩=some (.int .i64 g.c.c)/\w.cell? ⟨b,3,none⟩=some (.int .i64 g.c.wd)/\w.cell? ⟨b,4,none⟩=some (.int .i64 g.c.v)/\w.cell? ⟨b,5,none⟩=some (.pointer (some ⟨bw,0,none⟩))/\w.cell? ⟨b,6,none⟩=some (vh lp)/\w.cell? ⟨b,7,none⟩=some (.bool g.over) :=
 ⟨h.cell rfl,h.cell rfl,h.cell rfl,h.cell rfl,h.cell rfl,h.cell rfl,h.cell rfl,h.cell rfl⟩
def OpL (w:World) (B:List Nat) (l:Option Lok) (lp:Option Nat):Prop:=match l with | none=>lp=none/\B=[] | some x=>∃ bl,lp=some bl/\q06 w B bl x
theorem OpL.kept {S:List Nat} {w w':World} {B:List Nat} {l:Option Lok} {lp:Option Nat} (h:OpL w B l lp) (f:Fr S w w') (hS:∀ k,k∈B->k∉S):OpL w' B l lp:=by
 cases l with
 | none=>exact h
 | some x=>obtain ⟨bl,h1,h2⟩:=h;exact ⟨bl,h1,h2.kept f hS⟩
theorem OpL.lt {w:World} {B:List Nat} {l:Option Lok} {lp:Option Nat} (h:OpL w B l lp):∀ k,k∈B->k<w.heap.size:=by
 cases l with
 | none=>rw [h.2];simp
 | some x=>obtain ⟨bl,h1,h2⟩:=h;exact h2.lt
def q7o (w:World) (B:List Nat) (b:Nat) (g:Gt):Prop:=∃ bw lp B2,qaq w b g bw lp/\Z8 w bw g.w/\OpL w B2 g.l lp/\b≠bw/\b∉B2/\bw∉B2/\B=b :: bw :: B2
theorem q7o.lt {w:World} {B:List Nat} {b:Nat} {g:Gt} (h:q7o w B b g):∀ k,k∈B->k<w.heap.size:=by obtain ⟨bw,lp,B2,h1,h2,h3,h4,h5,h6,rfl⟩:=h;exact E0
theorem q7o.kept {S:List Nat} {w w':World} {B:List Nat} {b:Nat} {g:Gt} (h:q7o w B b g) (f:Fr S w w') (hS:∀ k,k∈B->k∉S):q7o w' B b g:=by obtain ⟨bw,lp,B2,h1,h2,h3,h4,h5,h6,rfl⟩:=h;exact ⟨bw,lp,B2,Ob.kept h1 f (hS _ Ma),Ob.kept h2 f (hS _ Ma),h3.kept f (fun k hk=>hS k Oi),h4,h5,h6,rfl⟩
structure q82 (g:Gt):Prop where
 c:g.c.Ok
 wc:g.w.c=g.c
 wk:g.w.key=g.key
 k0:0<=g.key/\g.key<=63
 l:∀ x,g.l=some x->Xr x
theorem Jj (x:Wk) (s:St):(x.step s).1.c=x.c/\(x.step s).1.key=x.key:=by
 unfold Wk.step;split
 ·unfold Wk.next Wk.head Wk.ends;(repeat' split) <;> exact ⟨rfl,rfl⟩
 ·exact ⟨rfl,rfl⟩
theorem q82.new {c:Cf} (hc:c.Ok) {key:Int} (hk:0<=key/\key<=63):q82 (Gt.new c key):=⟨hc,rfl,rfl,hk,fun x h=>by cases h⟩
theorem q82.step {g:Gt} (h:q82 g) (s:St):q82 (g.step s).1:=by
 obtain ⟨h1,h2,h3,h4,h5⟩:=h;unfold Gt.step;split
 ·exact ⟨h1,h2,h3,h4,h5⟩
 ·split
  ·rename_i x hx;exact ⟨h1,h2,h3,h4,fun y hy=>by cases hy;exact (h5 x hx).step s⟩
  ·rename_i hx;have:=Jj g.w s;simp only;split
   ·exact ⟨h1,this.1.trans h2,this.2.trans h3,h4,fun y hy=>by cases hy;exact Xr.new h1 _ _ _ _⟩
   ·exact ⟨h1,this.1.trans h2,this.2.trans h3,h4,fun y hy=>by rw [hx] at hy;cases hy⟩
theorem q94 (g:Gt) (hg:q82 g) (B:List Nat) (b p q:Nat) (s:St) (w:World) (h:q7o w B b g) (hA:Rar w p q s) (hp:p∉B) (hq:q∉B) :
  Calls Tryz.prog 69 #[.pointer (some ⟨b,0,none⟩),.pointer (some ⟨p,0,none⟩)] w (Stp w (fun w' B'=>q7o w' B' b (g.step s).1) B p q (g.step s).2 (g.step s).1.over):=by
 obtain ⟨bw,lp,B2,h1,h2,h3,h4,h5,h6,rfl⟩:=h;have hlt:=q7o.lt (b:=b) ⟨bw,lp,B2,h1,h2,h3,h4,h5,h6,rfl⟩;generalize hy:g.step s=y;have HY:=qb hy;clear hy;obtain ⟨c0,c1,c2,c3,c4,c5,c6,c7⟩:=Za h1;have z:=h1.frozen;simp only [List.mem_cons,not_or] at hp hq;cases ho:g.over with
 | true =>
  rw [ho] at c7;have hn:y=(g,s):=by rw [<- HY.out];unfold Gt.step;rw [qg ho]
  subst hn;have HO:=qb ho;clear ho;go_enter Tryz.func69,Tryz.ntmps69;go_wp2_with fail;go_ret;exact ⟨by rw [HO.out];rfl,⟨_,⟨bw,lp,B2,h1,h2,h3,h4,h5,h6,rfl⟩,fun k hk=>.inl hk⟩,hA,Fr.refl _ _⟩
 | false =>
  rw [ho] at c7;have HO:=qb ho;clear ho;cases hl:g.l with
  | some x =>
   rw [hl] at h3;obtain ⟨bl,rfl,h3⟩:=h3;unfold vh at c6;simp only at c6;have hxok:=hg.l x hl;have hn:y=({ g with l:=some (x.step s).1,over:=decide ((x.step s).1.line=0) },(x.step s).2):=by rw [<- HY.out];unfold Gt.step;rw [qf Ow,hl]
   subst hn;have HL:=qb (qd hl hxok);clear hl hxok;go_enter Tryz.func69,Tryz.ntmps69;go_wp2_with fail;refine (q61 x HL.out.2 B2 bl p q s w h3 hA hp.2.2 hq.2.2).mono ?_;rintro e w5 ⟨rfl,⟨B3,k1,k2⟩,k3,k4⟩;have hb5:b∉p :: q :: B2:=by simp only [List.mem_cons,not_or];exact ⟨Ne.symm hp.1,Ne.symm hq.1,h5⟩
   have hw5:bw∉p :: q :: B2:=by simp only [List.mem_cons,not_or];exact ⟨Ne.symm hp.2.1,Ne.symm hq.2.1,h6⟩
   have o5:qaq w5 b g bw (some bl):=Ob.kept h1 k4 hb5;have wk5:Z8 w5 bw g.w:=Ob.kept h2 k4 hw5;have D5:Fr (p :: q :: b :: bw :: B2) w w5:=k4.mono (by intro k hk;simp only [List.mem_cons] at hk ⊢;rcases hk with h | h | h <;> simp [h]);have hb3:b∉B3:=fun hi=>by rcases k2 b hi with h | h;exact h5 h;have:=hlt b Ma;omega
   have hw3:bw∉B3:=fun hi=>by rcases k2 bw hi with h | h;exact h6 h;have:=hlt bw Ma;omega
   have hpb:=hp.1;have hqb:=hq.1;clear c0 c1 c2 c3 c4 c5 c6 c7 z h1 h2 h3 k4;obtain ⟨c0,c1,c2,c3,c4,c5,c6,c7⟩:=Za o5;have z:=o5.frozen;generalize hov:decide ((x.step s).1.line=0)=ov at *;go_wp2_with fail;go_ret;subst hov;have SC:Fr [b] w5 (w5.setCell ⟨b,7,none⟩ (.bool (decide ((x.step s).1.line=0)))):=Fr.setCell _ Ma;refine ⟨rfl,⟨b :: bw :: B3,⟨bw,some bl,B3,Ob.set o5 (i:=7) (.bool (decide ((x.step s).1.line=0))),Ob.other wk5 (Ne.symm h4) _,⟨bl,rfl,k1.kept SC (by intro k hk hi;simp at hi;subst hi;exact hb3 hk)⟩,h4,hb3,hw3,rfl⟩,fun k hk=>?_⟩,Rar.set k3 (Ne.symm hpb) (Ne.symm hqb) _,D5.setCell' _ Ma⟩;simp only [List.mem_cons] at hk;rcases hk with rfl | rfl | hk
   ·exact .inl Ma
   ·exact .inl Ma
   ·exact (k2 k hk).imp (fun h=>by simp [h]) id
  | none =>
   rw [hl] at h3;obtain ⟨rfl,rfl⟩:=h3;unfold vh at c6;simp only at c6;have hsn:y.2=(g.w.step s).2:=by rw [<- HY.out];unfold Gt.step;rw [qf Ow,hl]
   have HL:=qb hl;clear hl;go_enter Tryz.func69,Tryz.ntmps69;go_wp2_with fail;have hc:=hg.c;refine (Kl g.w (by rw [hg.wc];exact hg.c) (by rw [hg.wk];exact hg.k0) bw p q s w h2 hA (Ne.symm hp.2.1) (Ne.symm hq.2.1)).mono ?_;rintro e w5 ⟨rfl,k1,k3,k4⟩;have o5:qaq w5 b g bw none:=Ob.kept h1 k4 (by simp;exact ⟨h4,Ne.symm hp.1,Ne.symm hq.1⟩);have D5:Fr (p :: q :: b :: bw :: []) w w5:=k4.mono O1;have hpb:=hp.1;have hqb:=hq.1;have hpw:=hp.2.1;have hqw:=hq.2.1;clear c0 c1 c2 c3 c4 c5 c6 c7 z h1 h2 k4;generalize hyw:(g.w.step s).1=yw at *;generalize hys:(g.w.step s).2=ys at *;by_cases e0:yw.line=0
   ·have g0:decide (yw.line=0)=true:=by simpa using e0
    have hn:y=({ g with w:=yw,l:=some (Lok.new g.c yw.at_ g.key g.key 1073741824) },ys):=by rw [<- HY.out];unfold Gt.step;rw [qf Ow,HL.out];simp only;rw [hyw,hys,qg e0]
    subst hn;rw [g0];have HE:=qb (qd hyw (qd hys (qd e0 g0)));clear hyw hys e0 g0 hsn;go_wp2_with fail;refine qq Me ?_;refine za [] w5 #[true,true,true,true,true,true,true,true,true,true,true,true,true,true,true,true,true,true,true,true,true,false,false,false] 21 3 rfl ?_;refine lpq [true,true,true,true,true,true,true,true,true,true,true,true,true,true,true,true,true,true,true,true,false,false,false,false] 1 ((Fr.refl _ w5).drew) ?_;apply qh;refine ⟨fun wf Ff=>?_,?_⟩
    ·obtain ⟨c0,c1,c2,c3,c4,c5,c6,c7⟩:=Za (Ob.up o5 Ff);have y9:=(xh (Ob.up k1 Ff)).2.2.2.2.2.2.2.2.2;have j0:=qc c0;have j1:=qc c1;have j2:=qc c2;have j3:=qc c3;have j4:=qc c4;have j5:=qc c5;have j9:=qc y9;clear c0 c1 c2 c3 c4 c5 c6 c7 y9;exact Ac
    refine loq 20 (fun w7 F7=>?_);have E:=((Fr.refl [] w5).drew.trans F7);clear F7;go_wp2_with fail;refine (Kh g.c yw.at_ g.key g.key 1073741824 w7).mono ?_;rintro e w8 ⟨bl,rfl,hbl,m1,F8⟩;have hE:=E.size;replace E:=E.trans F8;clear F8;go_wp2_with fail;refine qo ⟨E,?_⟩;refine qy (k:=21) rfl Me (fun w10 F10=>?_);replace E:=E.trans F10;replace m1:vn w10 bl (Lok.new g.c yw.at_ g.key g.key 1073741824):=Ob.up m1 F10;clear F10;have o10:qaq w10 b g bw none:=Ob.up o5 E;have k10:Z8 w10 bw yw:=Ob.up k1 E;have A10:=k3.kept E Ma Ma;have D10:=D5.then E;have hbb:bl≠b/\bl≠bw:=by have:=Ob.lt o5;have:=Ob.lt k1;constructor <;> omega
    have hbw:w.heap.size<=bl:=by have:=D5.size;omega
    clear o5 k1 k3 D5;obtain ⟨c0,c1,c2,c3,c4,c5,c6,c7⟩:=Za o10;have z:=o10.frozen;go_wp2_with fail;have SC:Fr [b] w10 (w10.setCell ⟨b,6,none⟩ (.pointer (some ⟨bl,0,none⟩))):=Fr.setCell _ Ma;have o11:qaq _ b { g with w:=yw,l:=some (Lok.new g.c yw.at_ g.key g.key 1073741824) } bw (some bl):=Ob.set o10 (i:=6) (.pointer (some ⟨bl,0,none⟩));have k11:Z8 _ bw yw:=Ob.other k10 (Ne.symm h4) (i:=6) (.pointer (some ⟨bl,0,none⟩));have m11:vn _ bl (Lok.new g.c yw.at_ g.key g.key 1073741824):=Ob.other m1 hbb.1 (i:=6) (.pointer (some ⟨bl,0,none⟩));have A11:=Rar.set A10 (Ne.symm hpb) (Ne.symm hqb) (i:=6) (.pointer (some ⟨bl,0,none⟩));have D11:=D10.setCell' (b:=b) (i:=6) (.pointer (some ⟨bl,0,none⟩)) Ma;clear c0 c1 c2 c3 c4 c5 c6 c7 z o10 k10 m1 A10 D10 E SC;generalize (w10.setCell ⟨b,6,none⟩ (.pointer (some ⟨bl,0,none⟩)))=w11 at *;have o12:=o11;have D12:=D11;obtain ⟨c0,c1,c2,c3,c4,c5,c6,c7⟩:=Za o12;have L12:=q06.new m11;have hb6:b∉[bl]:=by simp;exact Ne.symm hbb.1
    have hw6:bw∉[bl]:=by simp;exact Ne.symm hbb.2
    have HK12:=qb k11;have HA12:=qb A11;clear o11 D11 m11 k11 A11;rw [HO.out] at c7;go_wp2_with fail;go_ret;refine Stp.of (by rw [HO.out];rfl) (B':=b :: bw :: [bl]) ⟨bw,some bl,[bl],o12,HK12.out,⟨bl,rfl,L12⟩,h4,hb6,hw6,rfl⟩ (fun k hk=>?_) HA12.out D12;simp only [List.mem_cons,List.not_mem_nil,or_false] at hk;rcases hk with rfl | rfl | rfl
    ·exact .inl Ma
    ·exact .inl Ma
    ·exact .inr hbw
   ·have g0:decide (yw.line=0)=false:=by simpa using e0
    have hn:y=({ g with w:=yw },ys):=by rw [<- HY.out];unfold Gt.step;rw [qf Ow,HL.out];simp only;rw [hyw,hys,qf e0]
    subst hn;rw [g0];obtain ⟨c0,c1,c2,c3,c4,c5,c6,c7⟩:=Za o5;rw [HO.out] at c7;have HE:=qb (qd hyw (qd hys (qd e0 g0)));clear hyw hys e0 g0 hsn;go_wp2_with fail;go_ret;refine Stp.of (by rw [HO.out];rfl) (B':=b :: bw :: []) ⟨bw,none,[],o5,k1,by rw [HL.out];exact ⟨rfl,rfl⟩,h4,h5,h6,rfl⟩ (fun k hk=>.inl hk) k3 D5
end Go.Proofs.YtbddhncgemeohaaGreatDoor.Mx
