/- Parts. -/
import Derived.Test.YtleclbldlladmaaGreatVad
set_option linter.unusedVariables false
set_option linter.unusedSimpArgs false
set_option maxRecDepth 100000
set_option maxHeartbeats 12800000
namespace Go.Proofs.YtleclbldlladmaaGreat.Mx
open Go.RowKit Ar Ref
structure Cl where
 c:Cf
 chunk:Int
 key:Int
 data:Int
 line:Int
 i:Int
 g:Int
 version:Int
def Cl.cells (x:Cl):Array Value:=#[.int .i64 x.c.t,.int .i64 x.c.c,.int .i64 x.c.wd,.int .i64 x.c.v,.int .i64 x.chunk,.int .i64 x.key,.int .i64 x.data,.int .i64 x.line,.int .i64 x.i,.int .i64 x.g,.int .i64 x.version]
def X0 (w:World) (b:Nat) (x:Cl):Prop:=Ob w b 136 x.cells
theorem zu {w:World} {b:Nat} {x:Cl} (h:X0 w b x):w.cell? ⟨b,0,none⟩=some (.int .i64 x.c.t)/\w.cell? ⟨b,1,none⟩=some (.int .i64 x.c.c)/\w.cell? ⟨b,2,none⟩=some (.int .i64 x.c.wd)/\w.cell? ⟨b,3,none⟩=some (.int .i64 x.c.v)/\w.cell? ⟨b,4,none⟩=some (.int .i64 x.chunk)/\w.cell? ⟨b,5,none⟩=some (.int .i64 x.key)/\w.cell? ⟨b,6,none⟩=some (.int .i64 x.data)/\w.cell? ⟨b,7,none⟩=some (.int .i64 x.line)/\w.cell? ⟨b,8,none⟩=some (.int .i64 x.i)/\w.cell? ⟨b,9,none⟩=some (.int .i64 x.g)/\w.cell? ⟨b,10,none⟩=some (.int .i64 x.version) :=
 ⟨h.cell rfl,h.cell rfl,h.cell rfl,h.cell rfl,h.cell rfl,h.cell rfl,h.cell rfl,h.cell rfl,h.cell rfl,h.cell rfl,h.cell rfl⟩
def Cl.new (c:Cf) (chunk key data:Int):Cl:=⟨c,chunk,key,data,1,-1,0,-1⟩
def Cl.sa (x:Cl):Int:=Qo x.chunk x.i
def Cl.live (x:Cl):Bool:=decide (1<=x.line) && decide (x.line<=8)
def Cl.act (x:Cl) (s:St):St :=
 if x.line=1 then s.load (wrap64 (x.chunk+6)) else if x.line=2 then s.add (wrap64 (x.chunk+1)) 1 else if x.line=3 then s.store (wrap64 (x.sa+1)) x.key
 else if x.line=4 then s.store (wrap64 (x.sa+2)) x.data else if x.line=5 then s.swap x.sa 0 1 else if x.line=6 then s.load 1 else if x.line=7 then s.swap x.sa 1 (vu x.g) else s.load x.sa
def Cl.told (x:Cl) (s:St):Int :=
 if x.line=1 then qw s.l (wrap64 (x.chunk+6)) else if x.line=2 then qw s.l (wrap64 (x.chunk+1)) else if x.line=5 then (if s.can x.sa 0 then 1 else 0) else if x.line=6 then qw s.l 1 else qw s.l x.sa
def Cl.next (x:Cl) (v:Int):Cl :=
 if x.line=1 then (if v=0 then { x with line:=2 } else { x with line:=0 })
 else if x.line=2 then (if 0<=v/\v<x.c.c then { x with line:=3,i:=v } else { x with line:=0 })
 else if x.line=3 then { x with line:=4 } else if x.line=4 then { x with line:=5 }
 else if x.line=5 then (if v=1 then { x with line:=6 } else { x with line:=0 })
 else if x.line=6 then { x with g:=v,line:=7 } else if x.line=7 then { x with line:=8 } else { x with version:=Vi v,line:=0 }
def Cl.step (x:Cl) (s:St):Cl×St:=if x.live=true then (x.next (x.told s),x.act s) else (x,s)
theorem q1b (c:Cf) (chunk key data:Int) (w:World):Calls Tryz.prog 91 #[c.val,.int .i64 chunk,.int .i64 key,.int .i64 data] w fun e w'=>∃ b,e = .returned (.pointer (some ⟨b,0,none⟩))/\w.heap.size<=b/\X0 w' b (Cl.new c chunk key data)/\Fr [] w w':=by unfold Cf.val;have F0:=(Fr.refl [] w).alloc (.cells #[.int .i64 c.t,.int .i64 c.c,.int .i64 c.wd,.int .i64 c.v] 23);obtain ⟨c0,c1,c2,c3⟩:=Pl.yu (Go.heap_alloc_new w (.cells #[.int .i64 c.t,.int .i64 c.c,.int .i64 c.wd,.int .i64 c.v] 23));go_enter Tryz.func91,Tryz.ntmps91;exact Bj
theorem q3g (x:Cl) (hl:x.line=1) (hc:x.c.Ok) (b p q:Nat) (s:St) (w:World) (h:X0 w b x) (hA:Rar w p q s) (hp:b≠p) (hq:b≠q) :
  Calls Tryz.prog 88 #[.pointer (some ⟨b,0,none⟩),.pointer (some ⟨p,0,none⟩)] w fun e w'=>e = .returned (.bool (decide ((x.next (qw s.l (wrap64 (x.chunk+6)))).line=0)))/\X0 w' b (x.next (qw s.l (wrap64 (x.chunk+6))))/\Rar w' p q (s.load (wrap64 (x.chunk+6)))/\Fr [b,p,q] w w':=by
 generalize hy:x.next (qw s.l (wrap64 (x.chunk+6)))=y;have HY:=q9 hy;clear hy;obtain ⟨c0,c1,c2,c3,c4,c5,c6,c7,c8,c9,c10⟩:=zu h;have z:=h.frozen;go_enter Tryz.func88,Tryz.ntmps88;go_wp2_with fail;have k4:=qb c4;have k8:=qb c8;clear c0 c1 c2 c3 c4 c5 c6 c7 c8 c9 c10 z;refine wiq ?_;repeat (go_big_quiet_step ((go_at_call 111;exact Calls.in_same (vk _ _ _))))
 refine wpQuiet_nil ?_;intro w0 F0;rw [show Qo x.chunk x.i=x.sa from rfl];have h0:X0 w0 b x:=Ob.up h F0;have A0:=hA.kept F0;have D0:Fr [b,p,q] w w0:=F0.mono;clear k4 k8 h hA F0;obtain ⟨c0,c1,c2,c3,c4,c5,c6,c7,c8,c9,c10⟩:=zu h0;have z:=h0.frozen;go_wp2_with fail;have A1:=(Rar.set A0 hp hq (i:=7) (.int .i64 2));have h1:X0 _ b { x with line:=2 }:=(Ob.set h0 (i:=7) (.int .i64 2));have D1:=(Fr.setCell' D0 (b:=b) (i:=7) (.int .i64 2) Lc);clear c0 c1 c2 c3 c4 c5 c6 c7 c8 c9 c10 z;generalize (w0.setCell ⟨b,7,none⟩ (.int .i64 2))=w1 at *;refine (Ref.zl _ p q s _ A1).mono ?_;rintro e w5 ⟨rfl,A5,F5⟩;have h5:=Ob.kept h1 F5 Lf;have D5:=zm D1 F5 Lc;clear A1 h1 D1 F5 A0 h0 D0;obtain ⟨c0,c1,c2,c3,c4,c5,c6,c7,c8,c9,c10⟩:=zu h5;have z:=h5.frozen;generalize hv:qw s.l (wrap64 (x.chunk+6))=v at *;by_cases hv0:v=0
 ·have hn:y = { x with line:=2 }:=by rw [<- HY.out];unfold Cl.next;simp [hl,hv0]
  subst hn;exact Ea
 ·have hn:y = { x with line:=0 }:=by rw [<- HY.out];unfold Cl.next;simp [hl,hv0]
  exact Ae
theorem q4a (x:Cl) (hl:x.line=2) (hc:x.c.Ok) (b p q:Nat) (s:St) (w:World) (h:X0 w b x) (hA:Rar w p q s) (hp:b≠p) (hq:b≠q) :
  Calls Tryz.prog 88 #[.pointer (some ⟨b,0,none⟩),.pointer (some ⟨p,0,none⟩)] w fun e w'=>e = .returned (.bool (decide ((x.next (qw s.l (wrap64 (x.chunk+1)))).line=0)))/\X0 w' b (x.next (qw s.l (wrap64 (x.chunk+1))))/\Rar w' p q (s.add (wrap64 (x.chunk+1)) 1)/\Fr [b,p,q] w w':=by
 generalize hy:x.next (qw s.l (wrap64 (x.chunk+1)))=y;have HY:=q9 hy;clear hy;obtain ⟨c0,c1,c2,c3,c4,c5,c6,c7,c8,c9,c10⟩:=zu h;have z:=h.frozen;go_enter Tryz.func88,Tryz.ntmps88;go_wp2_with fail;have k4:=qb c4;have k8:=qb c8;clear c0 c1 c2 c3 c4 c5 c6 c7 c8 c9 c10 z;refine wiq ?_;repeat (go_big_quiet_step ((go_at_call 111;exact Calls.in_same (vk _ _ _))))
 refine wpQuiet_nil ?_;intro w0 F0;rw [show Qo x.chunk x.i=x.sa from rfl];have h0:X0 w0 b x:=Ob.up h F0;have A0:=hA.kept F0;have D0:Fr [b,p,q] w w0:=F0.mono;clear k4 k8 h hA F0;obtain ⟨c0,c1,c2,c3,c4,c5,c6,c7,c8,c9,c10⟩:=zu h0;have z:=h0.frozen;go_wp2_with fail;have A1:=(Rar.set A0 hp hq (i:=7) (.int .i64 3));have h1:X0 _ b { x with line:=3 }:=(Ob.set h0 (i:=7) (.int .i64 3));have D1:=(Fr.setCell' D0 (b:=b) (i:=7) (.int .i64 3) Lc);clear c0 c1 c2 c3 c4 c5 c6 c7 c8 c9 c10 z;generalize (w0.setCell ⟨b,7,none⟩ (.int .i64 3))=w1 at *;refine (Ref.Uy _ p q s _ 1 A1).mono ?_;rintro e w5 ⟨rfl,A5,F5⟩;have h5:=Ob.kept h1 F5 Lf;have D5:=zm D1 F5 Lc;clear A1 h1 D1 F5 A0 h0 D0;obtain ⟨c0,c1,c2,c3,c4,c5,c6,c7,c8,c9,c10⟩:=zu h5;have z:=h5.frozen;generalize hv:qw s.l (wrap64 (x.chunk+1))=v at *;by_cases hv0:v<0
 ·exact Io
 have hv2:0<=v:=by omega
 by_cases hv1:x.c.c<=v
 ·exact Io
 have hv3:v<x.c.c:=by omega
 have hn:y = { x with line:=3,i:=v }:=by rw [<- HY.out];unfold Cl.next;simp [hl,hv2,hv3]
 exact Ae
theorem q3c (x:Cl) (hl:x.line=3) (hc:x.c.Ok) (b p q:Nat) (s:St) (w:World) (h:X0 w b x) (hA:Rar w p q s) (hp:b≠p) (hq:b≠q) :
  Calls Tryz.prog 88 #[.pointer (some ⟨b,0,none⟩),.pointer (some ⟨p,0,none⟩)] w fun e w'=>e = .returned (.bool (decide ((x.next (x.told s)).line=0)))/\X0 w' b (x.next (x.told s))/\Rar w' p q (s.store (wrap64 (x.sa+1)) x.key)/\Fr [b,p,q] w w':=by
 generalize hy:x.next (x.told s)=y;have HY:=q9 hy;clear hy;obtain ⟨c0,c1,c2,c3,c4,c5,c6,c7,c8,c9,c10⟩:=zu h;have z:=h.frozen;go_enter Tryz.func88,Tryz.ntmps88;go_wp2_with fail;have k4:=qb c4;have k8:=qb c8;clear c0 c1 c2 c3 c4 c5 c6 c7 c8 c9 c10 z;refine wiq ?_;repeat (go_big_quiet_step ((go_at_call 111;exact Calls.in_same (vk _ _ _))))
 refine wpQuiet_nil ?_;intro w0 F0;rw [show Qo x.chunk x.i=x.sa from rfl];have h0:X0 w0 b x:=Ob.up h F0;have A0:=hA.kept F0;have D0:Fr [b,p,q] w w0:=F0.mono;clear k4 k8 h hA F0;obtain ⟨c0,c1,c2,c3,c4,c5,c6,c7,c8,c9,c10⟩:=zu h0;have z:=h0.frozen;go_wp2_with fail;have A1:=A0;have h1:=h0;have D1:=D0;clear c0 c1 c2 c3 c4 c5 c6 c7 c8 c9 c10 z;refine (Ref.jr _ p q s _ _ A1).mono ?_;rintro e w5 ⟨rfl,A5,F5⟩;have h5:=Ob.kept h1 F5 Lf;have D5:=zm D1 F5 Lc;clear A1 h1 D1 F5 A0 h0 D0;obtain ⟨c0,c1,c2,c3,c4,c5,c6,c7,c8,c9,c10⟩:=zu h5;have z:=h5.frozen;have hn:y = { x with line:=4 }:=by rw [<- HY.out];unfold Cl.next;simp [hl]
 exact Ae
theorem q2r (x:Cl) (hl:x.line=4) (hc:x.c.Ok) (b p q:Nat) (s:St) (w:World) (h:X0 w b x) (hA:Rar w p q s) (hp:b≠p) (hq:b≠q) :
  Calls Tryz.prog 88 #[.pointer (some ⟨b,0,none⟩),.pointer (some ⟨p,0,none⟩)] w fun e w'=>e = .returned (.bool (decide ((x.next (x.told s)).line=0)))/\X0 w' b (x.next (x.told s))/\Rar w' p q (s.store (wrap64 (x.sa+2)) x.data)/\Fr [b,p,q] w w':=by
 generalize hy:x.next (x.told s)=y;have HY:=q9 hy;clear hy;obtain ⟨c0,c1,c2,c3,c4,c5,c6,c7,c8,c9,c10⟩:=zu h;have z:=h.frozen;go_enter Tryz.func88,Tryz.ntmps88;go_wp2_with fail;have k4:=qb c4;have k8:=qb c8;clear c0 c1 c2 c3 c4 c5 c6 c7 c8 c9 c10 z;refine wiq ?_;repeat (go_big_quiet_step ((go_at_call 111;exact Calls.in_same (vk _ _ _))))
 refine wpQuiet_nil ?_;intro w0 F0;rw [show Qo x.chunk x.i=x.sa from rfl];have h0:X0 w0 b x:=Ob.up h F0;have A0:=hA.kept F0;have D0:Fr [b,p,q] w w0:=F0.mono;clear k4 k8 h hA F0;obtain ⟨c0,c1,c2,c3,c4,c5,c6,c7,c8,c9,c10⟩:=zu h0;have z:=h0.frozen;go_wp2_with fail;have A1:=A0;have h1:=h0;have D1:=D0;clear c0 c1 c2 c3 c4 c5 c6 c7 c8 c9 c10 z;refine (Ref.jr _ p q s _ _ A1).mono ?_;rintro e w5 ⟨rfl,A5,F5⟩;have h5:=Ob.kept h1 F5 Lf;have D5:=zm D1 F5 Lc;clear A1 h1 D1 F5 A0 h0 D0;obtain ⟨c0,c1,c2,c3,c4,c5,c6,c7,c8,c9,c10⟩:=zu h5;have z:=h5.frozen;have hn:y = { x with line:=5 }:=by rw [<- HY.out];unfold Cl.next;simp [hl]
 exact Ae
theorem q2z (x:Cl) (hl:x.line=5) (hc:x.c.Ok) (b p q:Nat) (s:St) (w:World) (h:X0 w b x) (hA:Rar w p q s) (hp:b≠p) (hq:b≠q) :
  Calls Tryz.prog 88 #[.pointer (some ⟨b,0,none⟩),.pointer (some ⟨p,0,none⟩)] w fun e w'=>e = .returned (.bool (decide ((x.next (if s.can x.sa 0 then 1 else 0)).line=0)))/\X0 w' b (x.next (if s.can x.sa 0 then 1 else 0))/\Rar w' p q (s.swap x.sa 0 1)/\Fr [b,p,q] w w':=by
 generalize hy:x.next (if s.can x.sa 0 then 1 else 0)=y;have HY:=q9 hy;clear hy;obtain ⟨c0,c1,c2,c3,c4,c5,c6,c7,c8,c9,c10⟩:=zu h;have z:=h.frozen;go_enter Tryz.func88,Tryz.ntmps88;go_wp2_with fail;have k4:=qb c4;have k8:=qb c8;clear c0 c1 c2 c3 c4 c5 c6 c7 c8 c9 c10 z;refine wiq ?_;repeat (go_big_quiet_step ((go_at_call 111;exact Calls.in_same (vk _ _ _))))
 refine wpQuiet_nil ?_;intro w0 F0;rw [show Qo x.chunk x.i=x.sa from rfl];have h0:X0 w0 b x:=Ob.up h F0;have A0:=hA.kept F0;have D0:Fr [b,p,q] w w0:=F0.mono;clear k4 k8 h hA F0;obtain ⟨c0,c1,c2,c3,c4,c5,c6,c7,c8,c9,c10⟩:=zu h0;have z:=h0.frozen;go_wp2_with fail;have A1:=(Rar.set A0 hp hq (i:=7) (.int .i64 6));have h1:X0 _ b { x with line:=6 }:=(Ob.set h0 (i:=7) (.int .i64 6));have D1:=(Fr.setCell' D0 (b:=b) (i:=7) (.int .i64 6) Lc);clear c0 c1 c2 c3 c4 c5 c6 c7 c8 c9 c10 z;generalize (w0.setCell ⟨b,7,none⟩ (.int .i64 6))=w1 at *;refine (Ref.yn _ p q s _ 0 1 A1).mono ?_;rintro e w5 ⟨rfl,A5,F5⟩;have h5:=Ob.kept h1 F5 Lf;have D5:=zm D1 F5 Lc;clear A1 h1 D1 F5 A0 h0 D0;obtain ⟨c0,c1,c2,c3,c4,c5,c6,c7,c8,c9,c10⟩:=zu h5;have z:=h5.frozen;cases hv:s.can x.sa 0
 ·have hn:y = { x with line:=0 }:=by rw [<- HY.out];unfold Cl.next;simp [hl,hv]
  exact Ae
 ·have hn:y = { x with line:=6 }:=by rw [<- HY.out];unfold Cl.next;simp [hl,hv]
  subst hn;exact Ea
theorem q4j (x:Cl) (hl:x.line=6) (hc:x.c.Ok) (b p q:Nat) (s:St) (w:World) (h:X0 w b x) (hA:Rar w p q s) (hp:b≠p) (hq:b≠q) :
  Calls Tryz.prog 88 #[.pointer (some ⟨b,0,none⟩),.pointer (some ⟨p,0,none⟩)] w fun e w'=>e = .returned (.bool (decide ((x.next (qw s.l 1)).line=0)))/\X0 w' b (x.next (qw s.l 1))/\Rar w' p q (s.load 1)/\Fr [b,p,q] w w':=by
 generalize hy:x.next (qw s.l 1)=y;have HY:=q9 hy;clear hy;obtain ⟨c0,c1,c2,c3,c4,c5,c6,c7,c8,c9,c10⟩:=zu h;have z:=h.frozen;go_enter Tryz.func88,Tryz.ntmps88;go_wp2_with fail;have k4:=qb c4;have k8:=qb c8;clear c0 c1 c2 c3 c4 c5 c6 c7 c8 c9 c10 z;refine wiq ?_;repeat (go_big_quiet_step ((go_at_call 111;exact Calls.in_same (vk _ _ _))))
 refine wpQuiet_nil ?_;intro w0 F0;rw [show Qo x.chunk x.i=x.sa from rfl];have h0:X0 w0 b x:=Ob.up h F0;have A0:=hA.kept F0;have D0:Fr [b,p,q] w w0:=F0.mono;clear k4 k8 h hA F0;obtain ⟨c0,c1,c2,c3,c4,c5,c6,c7,c8,c9,c10⟩:=zu h0;have z:=h0.frozen;go_wp2_with fail;have A1:=A0;have h1:=h0;have D1:=D0;clear c0 c1 c2 c3 c4 c5 c6 c7 c8 c9 c10 z;refine (Ref.zl _ p q s 1 A1).mono ?_;rintro e w5 ⟨rfl,A5,F5⟩;have h5:=Ob.kept h1 F5 Lf;have D5:=zm D1 F5 Lc;clear A1 h1 D1 F5 A0 h0 D0;obtain ⟨c0,c1,c2,c3,c4,c5,c6,c7,c8,c9,c10⟩:=zu h5;have z:=h5.frozen;have hn:y = { x with g:=qw s.l 1,line:=7 }:=by rw [<- HY.out];unfold Cl.next;simp [hl]
 exact Ao
theorem q3l (x:Cl) (hl:x.line=7) (hc:x.c.Ok) (b p q:Nat) (s:St) (w:World) (h:X0 w b x) (hA:Rar w p q s) (hp:b≠p) (hq:b≠q) :
  Calls Tryz.prog 88 #[.pointer (some ⟨b,0,none⟩),.pointer (some ⟨p,0,none⟩)] w fun e w'=>e = .returned (.bool (decide ((x.next (x.told s)).line=0)))/\X0 w' b (x.next (x.told s))/\Rar w' p q (s.swap x.sa 1 (vu x.g))/\Fr [b,p,q] w w':=by
 generalize hy:x.next (x.told s)=y;have HY:=q9 hy;clear hy;obtain ⟨c0,c1,c2,c3,c4,c5,c6,c7,c8,c9,c10⟩:=zu h;have z:=h.frozen;go_enter Tryz.func88,Tryz.ntmps88;go_wp2_with fail;have k4:=qb c4;have k8:=qb c8;clear c0 c1 c2 c3 c4 c5 c6 c7 c8 c9 c10 z;refine wiq ?_;repeat (go_big_quiet_step ((go_at_call 111;exact Calls.in_same (vk _ _ _))))
 refine wpQuiet_nil ?_;intro w0 F0;rw [show Qo x.chunk x.i=x.sa from rfl];have h0:X0 w0 b x:=Ob.up h F0;have A0:=hA.kept F0;have D0:Fr [b,p,q] w w0:=F0.mono;clear k4 k8 h hA F0;obtain ⟨c0,c1,c2,c3,c4,c5,c6,c7,c8,c9,c10⟩:=zu h0;have z:=h0.frozen;go_wp2_with fail;refine (Xb _ _).mono ?_;rintro e _ ⟨rfl,rfl⟩;go_wp2_with fail;have A1:=A0;have h1:=h0;have D1:=D0;clear c0 c1 c2 c3 c4 c5 c6 c7 c8 c9 c10 z;refine (Ref.yn _ p q s _ 1 _ A1).mono ?_;rintro e w5 ⟨rfl,A5,F5⟩;have h5:=Ob.kept h1 F5 Lf;have D5:=zm D1 F5 Lc;clear A1 h1 D1 F5 A0 h0 D0;obtain ⟨c0,c1,c2,c3,c4,c5,c6,c7,c8,c9,c10⟩:=zu h5;have z:=h5.frozen;have hn:y = { x with line:=8 }:=by rw [<- HY.out];unfold Cl.next;simp [hl]
 exact Ae
theorem q3h (x:Cl) (hl:x.line=8) (hc:x.c.Ok) (b p q:Nat) (s:St) (w:World) (h:X0 w b x) (hA:Rar w p q s) (hp:b≠p) (hq:b≠q) :
  Calls Tryz.prog 88 #[.pointer (some ⟨b,0,none⟩),.pointer (some ⟨p,0,none⟩)] w fun e w'=>e = .returned (.bool (decide ((x.next (qw s.l x.sa)).line=0)))/\X0 w' b (x.next (qw s.l x.sa))/\Rar w' p q (s.load x.sa)/\Fr [b,p,q] w w':=by
 generalize hy:x.next (qw s.l x.sa)=y;have HY:=q9 hy;clear hy;obtain ⟨c0,c1,c2,c3,c4,c5,c6,c7,c8,c9,c10⟩:=zu h;have z:=h.frozen;go_enter Tryz.func88,Tryz.ntmps88;go_wp2_with fail;have k4:=qb c4;have k8:=qb c8;clear c0 c1 c2 c3 c4 c5 c6 c7 c8 c9 c10 z;refine wiq ?_;repeat (go_big_quiet_step ((go_at_call 111;exact Calls.in_same (vk _ _ _))))
 refine wpQuiet_nil ?_;intro w0 F0;rw [show Qo x.chunk x.i=x.sa from rfl];have h0:X0 w0 b x:=Ob.up h F0;have A0:=hA.kept F0;have D0:Fr [b,p,q] w w0:=F0.mono;clear k4 k8 h hA F0;obtain ⟨c0,c1,c2,c3,c4,c5,c6,c7,c8,c9,c10⟩:=zu h0;have z:=h0.frozen;go_wp2_with fail;have A1:=A0;have h1:=h0;have D1:=D0;clear c0 c1 c2 c3 c4 c5 c6 c7 c8 c9 c10 z;refine (Ref.zl _ p q s _ A1).mono ?_;rintro e w5 ⟨rfl,A5,F5⟩;have h5:=Ob.kept h1 F5 Lf;have D5:=zm D1 F5 Lc;clear A1 h1 D1 F5 A0 h0 D0;obtain ⟨c0,c1,c2,c3,c4,c5,c6,c7,c8,c9,c10⟩:=zu h5;have z:=h5.frozen;go_wp2_with fail;refine (Xz _ _).mono ?_;rintro e _ ⟨rfl,rfl⟩;have hn:y = { x with version:=Vi (qw s.l x.sa),line:=0 }:=by rw [<- HY.out];unfold Cl.next;simp [hl]
 subst hn;go_wp2_with fail;go_ret;exact ⟨rfl,(Ob.set (Ob.set h5 _) (i:=7) (.int .i64 0)),(Rar.set (Rar.set A5 hp hq _) hp hq (i:=7) (.int .i64 0)),(Fr.setCell' (Fr.setCell' D5 _ Lc) (b:=b) (i:=7) (.int .i64 0) Lc)⟩
theorem q49 (x:Cl) (hl:x.live=false) (b p q:Nat) (w:World) (h:X0 w b x) :
  Calls Tryz.prog 88 #[.pointer (some ⟨b,0,none⟩),.pointer (some ⟨p,0,none⟩)] w fun e w'=>e = .returned (.bool (decide (x.line=0)))/\Fr [] w w':=by
 obtain ⟨c0,c1,c2,c3,c4,c5,c6,c7,c8,c9,c10⟩:=zu h;unfold Cl.live at hl;have l1:x.line≠1:=by intro h;rw [h] at hl;simp at hl
 have l2:x.line≠2:=by intro h;rw [h] at hl;simp at hl
 have l3:x.line≠3:=by intro h;rw [h] at hl;simp at hl
 have l4:x.line≠4:=by intro h;rw [h] at hl;simp at hl
 have l5:x.line≠5:=by intro h;rw [h] at hl;simp at hl
 have l6:x.line≠6:=by intro h;rw [h] at hl;simp at hl
 have l7:x.line≠7:=by intro h;rw [h] at hl;simp at hl
 have l8:x.line≠8:=by intro h;rw [h] at hl;simp at hl
 clear hl;go_enter Tryz.func88,Tryz.ntmps88;go_wp2_with fail;have k4:=qb c4;have k8:=qb c8;have hc7:=c7;clear c0 c1 c2 c3 c4 c5 c6 c7 c8 c9 c10;refine wiq ?_;repeat (go_big_quiet_step ((go_at_call 111;exact Calls.in_same (vk _ _ _))))
 refine wpQuiet_nil ?_;intro w0 F0;have c7:=F0.cell hc7 Lc;exact H0
theorem Sa (x:Cl) (hc:x.c.Ok) (b p q:Nat) (s:St) (w:World) (h:X0 w b x) (hA:Rar w p q s) (hp:b≠p) (hq:b≠q) :
  Calls Tryz.prog 88 #[.pointer (some ⟨b,0,none⟩),.pointer (some ⟨p,0,none⟩)] w fun e w'=>e = .returned (.bool (decide ((x.step s).1.line=0)))/\X0 w' b (x.step s).1/\Rar w' p q (x.step s).2/\Fr [b,p,q] w w':=by
 unfold Cl.step;cases hl:x.live with
 | false=>exact (q49 x hl b p q w h).mono Lu
 | true =>
  unfold Cl.live at hl;simp only [Bool.and_eq_true,decide_eq_true_eq] at hl;have hl':x.line=1\/x.line=2\/x.line=3\/x.line=4\/x.line=5\/x.line=6\/x.line=7\/x.line=8:=by omega
  rw [qf rfl];rcases hl' with l | l | l | l | l | l | l | l
  ·rw [show x.act s=s.load (wrap64 (x.chunk+6)) by unfold Cl.act;simp [l],show x.told s=qw s.l (wrap64 (x.chunk+6)) by unfold Cl.told;simp [l]];exact q3g x l hc b p q s w h hA hp hq
  ·rw [show x.act s=s.add (wrap64 (x.chunk+1)) 1 by unfold Cl.act;simp [l],show x.told s=qw s.l (wrap64 (x.chunk+1)) by unfold Cl.told;simp [l]];exact q4a x l hc b p q s w h hA hp hq
  ·rw [show x.act s=s.store (wrap64 (x.sa+1)) x.key by unfold Cl.act;simp [l]];exact q3c x l hc b p q s w h hA hp hq
  ·rw [show x.act s=s.store (wrap64 (x.sa+2)) x.data by unfold Cl.act;simp [l]];exact q2r x l hc b p q s w h hA hp hq
  ·rw [show x.act s=s.swap x.sa 0 1 by unfold Cl.act;simp [l],show x.told s=(if s.can x.sa 0 then 1 else 0) by unfold Cl.told;simp [l]];exact q2z x l hc b p q s w h hA hp hq
  ·rw [show x.act s=s.load 1 by unfold Cl.act;simp [l],show x.told s=qw s.l 1 by unfold Cl.told;simp [l]];exact q4j x l hc b p q s w h hA hp hq
  ·rw [show x.act s=s.swap x.sa 1 (vu x.g) by unfold Cl.act;simp [l]];exact q3l x l hc b p q s w h hA hp hq
  ·rw [show x.act s=s.load x.sa by unfold Cl.act;simp [l],show x.told s=qw s.l x.sa by unfold Cl.told;simp [l]];exact q3h x l hc b p q s w h hA hp hq
end Go.Proofs.YtleclbldlladmaaGreat.Mx
