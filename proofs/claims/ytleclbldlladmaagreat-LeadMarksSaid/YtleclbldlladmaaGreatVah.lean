/- Parts. -/
import Derived.Test.YtleclbldlladmaaGreatVad
set_option linter.unusedVariables false
set_option linter.unusedSimpArgs false
set_option maxRecDepth 100000
set_option maxHeartbeats 12800000
namespace Go.Proofs.YtleclbldlladmaaGreat.Mx
open Go.RowKit Ar Ref
def yt (c:Cf) (chunk mate i:Int):Int:=if i<c.c then Qo chunk i else Qo mate (wrap64 (i - c.c))
def Q3 (c:Cf) (mate:Int):Int:=if mate=0 then c.c else 2 * c.c
theorem xu (c:Cf) (chunk mate i:Int) (hc:c.Ok) (w:World):Calls Tryz.prog 126 #[c.val,.int .i64 chunk,.int .i64 mate,.int .i64 i] w fun e w'=>e = .returned (.int .i64 (yt c chunk mate i))/\Fr [] w w':=by
 unfold Cf.val;have h16:=hc.c16;have h2:=hc.c2;have ht:=hc.t1;have F0:=(Fr.refl [] w).alloc (.cells #[.int .i64 c.t,.int .i64 c.c,.int .i64 c.wd,.int .i64 c.v] 23);obtain ⟨c0,c1,c2,c3⟩:=Pl.yu (Go.heap_alloc_new w (.cells #[.int .i64 c.t,.int .i64 c.c,.int .i64 c.wd,.int .i64 c.v] 23));unfold yt;by_cases h:i<c.c
 ·rw [qf h];have g:decide (i<c.c)=true:=by simpa using h
  exact Dl
 ·rw [qd h];have g:decide (i<c.c)=false:=by simpa using h
  exact Dl
theorem Ws (c:Cf) (mate:Int) (hc:c.Ok) (w:World):Calls Tryz.prog 127 #[c.val,.int .i64 mate] w fun e w'=>e = .returned (.int .i64 (Q3 c mate))/\Fr [] w w':=by
 unfold Cf.val;have h16:=hc.c16;have h2:=hc.c2;have ht:=hc.t1;have F0:=(Fr.refl [] w).alloc (.cells #[.int .i64 c.t,.int .i64 c.c,.int .i64 c.wd,.int .i64 c.v] 23);obtain ⟨c0,c1,c2,c3⟩:=Pl.yu (Go.heap_alloc_new w (.cells #[.int .i64 c.t,.int .i64 c.c,.int .i64 c.wd,.int .i64 c.v] 23));unfold Q3;by_cases h:mate=0
 ·rw [qf h];exact Gu
 ·rw [qd h];exact Gu
structure Sl where
 c:Cf
 chunk:Int
 mate:Int
 line:Int
 i:Int
 g:Int
def Sl.cells (x:Sl):Array Value:=#[.int .i64 x.c.t,.int .i64 x.c.c,.int .i64 x.c.wd,.int .i64 x.c.v,.int .i64 x.chunk,.int .i64 x.mate,.int .i64 x.line,.int .i64 x.i,.int .i64 x.g]
def Y4 (w:World) (b:Nat) (x:Sl):Prop:=Ob w b 172 x.cells
theorem x8 {w:World} {b:Nat} {x:Sl} (h:Y4 w b x):w.cell? ⟨b,0,none⟩=some (.int .i64 x.c.t)/\w.cell? ⟨b,1,none⟩=some (.int .i64 x.c.c)/\w.cell? ⟨b,2,none⟩=some (.int .i64 x.c.wd)/\w.cell? ⟨b,3,none⟩=some (.int .i64 x.c.v)/\w.cell? ⟨b,4,none⟩=some (.int .i64 x.chunk)/\w.cell? ⟨b,5,none⟩=some (.int .i64 x.mate)/\w.cell? ⟨b,6,none⟩=some (.int .i64 x.line)/\w.cell? ⟨b,7,none⟩=some (.int .i64 x.i)/\w.cell? ⟨b,8,none⟩=some (.int .i64 x.g) :=
 ⟨h.cell rfl,h.cell rfl,h.cell rfl,h.cell rfl,h.cell rfl,h.cell rfl,h.cell rfl,h.cell rfl,h.cell rfl⟩
def Sl.new (c:Cf) (chunk mate:Int):Sl:=⟨c,chunk,mate,1,0,0⟩
def Sl.sa (x:Sl):Int:=yt x.c x.chunk x.mate x.i
def Sl.live (x:Sl):Bool:=decide (1<=x.line) && decide (x.line<=6)
def Sl.act (x:Sl) (s:St):St :=
 if x.line=1 then s.store (wrap64 (x.chunk+6)) 1 else if x.line=2 then s.store (wrap64 (x.mate+6)) 1 else if x.line=3 then s.load x.sa else if x.line=4 then s.swap x.sa 0 2 else if x.line=5 then s.load 1 else s.swap x.sa 1 (vu x.g)
def Sl.told (x:Sl) (s:St):Int:=if x.line=3 then qw s.l x.sa else qw s.l 1
def Sl.next (x:Sl) (v:Int):Sl :=
 if x.line=1 then (if x.mate=0 then { x with line:=3 } else { x with line:=2 })
 else if x.line=2 then { x with line:=3 }
 else if x.line=3 then (if v=0 then { x with line:=4 } else if v=1 then { x with line:=5 } else if Q3 x.c x.mate<=wrap64 (x.i+1) then { x with i:=wrap64 (x.i+1),line:=0 } else { x with i:=wrap64 (x.i+1) })
 else if x.line=4 then { x with line:=3 } else if x.line=5 then { x with g:=v,line:=6 } else { x with line:=3 }
def Sl.step (x:Sl) (s:St):Sl×St:=if x.live=true then (x.next (x.told s),x.act s) else (x,s)
theorem Va (c:Cf) (chunk mate:Int) (w:World):Calls Tryz.prog 105 #[c.val,.int .i64 chunk,.int .i64 mate] w fun e w'=>∃ b,e = .returned (.pointer (some ⟨b,0,none⟩))/\w.heap.size<=b/\Y4 w' b (Sl.new c chunk mate)/\Fr [] w w':=by unfold Cf.val;have F0:=(Fr.refl [] w).alloc (.cells #[.int .i64 c.t,.int .i64 c.c,.int .i64 c.wd,.int .i64 c.v] 23);obtain ⟨c0,c1,c2,c3⟩:=Pl.yu (Go.heap_alloc_new w (.cells #[.int .i64 c.t,.int .i64 c.c,.int .i64 c.wd,.int .i64 c.v] 23));go_enter Tryz.func105,Tryz.ntmps105;exact Bj
theorem q3m (x:Sl) (hl:x.line=1) (hc:x.c.Ok) (b p q:Nat) (s:St) (w:World) (h:Y4 w b x) (hA:Rar w p q s) (hp:b≠p) (hq:b≠q) :
  Calls Tryz.prog 106 #[.pointer (some ⟨b,0,none⟩),.pointer (some ⟨p,0,none⟩)] w fun e w'=>e = .returned (.bool (decide ((x.next (x.told s)).line=0)))/\Y4 w' b (x.next (x.told s))/\Rar w' p q (s.store (wrap64 (x.chunk+6)) 1)/\Fr [b,p,q] w w':=by
 generalize hy:x.next (x.told s)=y;have HY:=q9 hy;clear hy;obtain ⟨c0,c1,c2,c3,c4,c5,c6,c7,c8⟩:=x8 h;have z:=h.frozen;go_enter Tryz.func106,Tryz.ntmps106;go_wp2_with fail;have k0:=qb c0;have k1:=qb c1;have k2:=qb c2;have k3:=qb c3;have k4:=qb c4;have k5:=qb c5;have k7:=qb c7;clear c0 c1 c2 c3 c4 c5 c6 c7 c8 z;refine wiq ?_;repeat (go_big_quiet_step (((go_at_call 126;exact Calls.in_ (xu x.c _ _ _ hc _)))))
 refine wpQuiet_nil ?_;intro w0 F0;rw [show yt x.c x.chunk x.mate x.i=x.sa from rfl];have h0:Y4 w0 b x:=Ob.up h F0;have A0:=hA.kept F0;have D0:Fr [b,p,q] w w0:=F0.mono;clear k0 k1 k2 k3 k4 k5 k7 h hA F0;obtain ⟨c0,c1,c2,c3,c4,c5,c6,c7,c8⟩:=x8 h0;have z:=h0.frozen;go_wp2_with fail;have A1:=A0;have h1:=h0;have D1:=D0;clear c0 c1 c2 c3 c4 c5 c6 c7 c8 z;refine (Ref.jr _ p q s _ _ A1).mono ?_;rintro e w5 ⟨rfl,A5,F5⟩;have h5:=Ob.kept h1 F5 Lf;have D5:=zm D1 F5 Lc;clear A1 h1 D1 F5 A0 h0 D0;obtain ⟨c0,c1,c2,c3,c4,c5,c6,c7,c8⟩:=x8 h5;have z:=h5.frozen;by_cases hm:x.mate=0
 ·have hn:y = { x with line:=3 }:=by rw [<- HY.out];unfold Sl.next;simp [hl,hm]
  subst hn;go_wp2_with fail;go_ret;rw [show ({ x with mate:=0,line:=3 }:Sl) = { x with line:=3 } by rw [<- hm]];exact Ah
 ·have hn:y = { x with line:=2 }:=by rw [<- HY.out];unfold Sl.next;simp [hl,hm]
  subst hn;go_wp2_with fail;go_ret;exact ⟨rfl,(Ob.set (Ob.set h5 _) (i:=6) (.int .i64 2)),(Rar.set (Rar.set A5 hp hq _) hp hq (i:=6) (.int .i64 2)),(Fr.setCell' (Fr.setCell' D5 _ Lc) (b:=b) (i:=6) (.int .i64 2) Lc)⟩
theorem q3k (x:Sl) (hl:x.line=2) (hc:x.c.Ok) (b p q:Nat) (s:St) (w:World) (h:Y4 w b x) (hA:Rar w p q s) (hp:b≠p) (hq:b≠q) :
  Calls Tryz.prog 106 #[.pointer (some ⟨b,0,none⟩),.pointer (some ⟨p,0,none⟩)] w fun e w'=>e = .returned (.bool (decide ((x.next (x.told s)).line=0)))/\Y4 w' b (x.next (x.told s))/\Rar w' p q (s.store (wrap64 (x.mate+6)) 1)/\Fr [b,p,q] w w':=by
 generalize hy:x.next (x.told s)=y;have HY:=q9 hy;clear hy;obtain ⟨c0,c1,c2,c3,c4,c5,c6,c7,c8⟩:=x8 h;have z:=h.frozen;go_enter Tryz.func106,Tryz.ntmps106;go_wp2_with fail;have k0:=qb c0;have k1:=qb c1;have k2:=qb c2;have k3:=qb c3;have k4:=qb c4;have k5:=qb c5;have k7:=qb c7;clear c0 c1 c2 c3 c4 c5 c6 c7 c8 z;refine wiq ?_;repeat (go_big_quiet_step (((go_at_call 126;exact Calls.in_ (xu x.c _ _ _ hc _)))))
 refine wpQuiet_nil ?_;intro w0 F0;rw [show yt x.c x.chunk x.mate x.i=x.sa from rfl];have h0:Y4 w0 b x:=Ob.up h F0;have A0:=hA.kept F0;have D0:Fr [b,p,q] w w0:=F0.mono;clear k0 k1 k2 k3 k4 k5 k7 h hA F0;obtain ⟨c0,c1,c2,c3,c4,c5,c6,c7,c8⟩:=x8 h0;have z:=h0.frozen;go_wp2_with fail;have A1:=A0;have h1:=h0;have D1:=D0;clear c0 c1 c2 c3 c4 c5 c6 c7 c8 z;refine (Ref.jr _ p q s _ _ A1).mono ?_;rintro e w5 ⟨rfl,A5,F5⟩;exact I7
theorem q2v (x:Sl) (hl:x.line=3) (hc:x.c.Ok) (b p q:Nat) (s:St) (w:World) (h:Y4 w b x) (hA:Rar w p q s) (hp:b≠p) (hq:b≠q) :
  Calls Tryz.prog 106 #[.pointer (some ⟨b,0,none⟩),.pointer (some ⟨p,0,none⟩)] w fun e w'=>e = .returned (.bool (decide ((x.next (qw s.l x.sa)).line=0)))/\Y4 w' b (x.next (qw s.l x.sa))/\Rar w' p q (s.load x.sa)/\Fr [b,p,q] w w':=by
 generalize hy:x.next (qw s.l x.sa)=y;have HY:=q9 hy;clear hy;obtain ⟨c0,c1,c2,c3,c4,c5,c6,c7,c8⟩:=x8 h;have z:=h.frozen;go_enter Tryz.func106,Tryz.ntmps106;go_wp2_with fail;have k0:=qb c0;have k1:=qb c1;have k2:=qb c2;have k3:=qb c3;have k4:=qb c4;have k5:=qb c5;have k7:=qb c7;clear c0 c1 c2 c3 c4 c5 c6 c7 c8 z;refine wiq ?_;repeat (go_big_quiet_step (((go_at_call 126;exact Calls.in_ (xu x.c _ _ _ hc _)))))
 refine wpQuiet_nil ?_;intro w0 F0;rw [show yt x.c x.chunk x.mate x.i=x.sa from rfl];have h0:Y4 w0 b x:=Ob.up h F0;have A0:=hA.kept F0;have D0:Fr [b,p,q] w w0:=F0.mono;clear k0 k1 k2 k3 k4 k5 k7 h hA F0;obtain ⟨c0,c1,c2,c3,c4,c5,c6,c7,c8⟩:=x8 h0;have z:=h0.frozen;go_wp2_with fail;have A1:=A0;have h1:=h0;have D1:=D0;clear c0 c1 c2 c3 c4 c5 c6 c7 c8 z;refine (Ref.zl _ p q s _ A1).mono ?_;rintro e w5 ⟨rfl,A5,F5⟩;have h5:=Ob.kept h1 F5 Lf;have D5:=zm D1 F5 Lc;clear A1 h1 D1 F5 A0 h0 D0;obtain ⟨c0,c1,c2,c3,c4,c5,c6,c7,c8⟩:=x8 h5;have z:=h5.frozen;generalize hv:qw s.l x.sa=v at *;by_cases hv0:v=0
 ·have hn:y = { x with line:=4 }:=by rw [<- HY.out];unfold Sl.next;simp [hl,hv0]
  exact Ae
 by_cases hv1:v=1
 ·have hn:y = { x with line:=5 }:=by rw [<- HY.out];unfold Sl.next;simp [hl,hv1]
  exact Ae
 have hv2:¬ (v=0\/v=1):=by omega
 go_wp2_with fail;have e3:({ x with i:=wrap64 (x.i+1),line:=3 }:Sl) = { x with i:=wrap64 (x.i+1) }:=by rw [<- hl]
 have h6:Y4 (w5.setCell ⟨b,7,none⟩ (.int .i64 (wrap64 (x.i+1)))) b { x with i:=wrap64 (x.i+1),line:=3 }:=by rw [e3];exact Ob.set h5 (i:=7) (.int .i64 (wrap64 (x.i+1)))
 have A6:=Rar.set A5 hp hq (i:=7) (.int .i64 (wrap64 (x.i+1)));have D6:=Fr.setCell' D5 (b:=b) (i:=7) (.int .i64 (wrap64 (x.i+1))) Lc;clear h5 A5 D5 z c0 c1 c2 c3 c4 c5 c6 c7 c8 e3;generalize (w5.setCell ⟨b,7,none⟩ (.int .i64 (wrap64 (x.i+1))))=w6 at *;obtain ⟨c0,c1,c2,c3,c4,c5,c6,c7,c8⟩:=x8 h6;have k0:=qb c0;have k1:=qb c1;have k2:=qb c2;have k3:=qb c3;have k5:=qb c5;have k7:=qb c7;clear c0 c1 c2 c3 c4 c5 c6 c7 c8;refine wiq ?_;repeat (go_big_quiet_step ((go_at_call 127;exact Calls.in_ (Ws x.c _ hc _))))
 refine wpQuiet_nil ?_;intro w7 F7;have h5:=Ob.up h6 F7;have A5:=A6.kept F7;have D5:=D6.then F7;clear h6 A6 D6 F7 k0 k1 k2 k3 k5 k7;obtain ⟨c0,c1,c2,c3,c4,c5,c6,c7,c8⟩:=x8 h5;have z:=h5.frozen;by_cases hv3:Q3 x.c x.mate<=wrap64 (x.i+1)
 ·have hn:y = { x with i:=wrap64 (x.i+1),line:=0 }:=by rw [<- HY.out];unfold Sl.next;simp [hl,hv0,hv1,hv3]
  subst hn;have g:decide (wrap64 (x.i+1)≥Q3 x.c x.mate)=true:=by simpa using hv3
  exact Ag
 ·have hn:y = { x with i:=wrap64 (x.i+1),line:=3 }:=by rw [<- HY.out];unfold Sl.next;simp [hl,hv0,hv1,hv3]
  subst hn;have g:decide (wrap64 (x.i+1)≥Q3 x.c x.mate)=false:=by simpa using hv3
  exact Ea
theorem q3o (x:Sl) (hl:x.line=4) (hc:x.c.Ok) (b p q:Nat) (s:St) (w:World) (h:Y4 w b x) (hA:Rar w p q s) (hp:b≠p) (hq:b≠q) :
  Calls Tryz.prog 106 #[.pointer (some ⟨b,0,none⟩),.pointer (some ⟨p,0,none⟩)] w fun e w'=>e = .returned (.bool (decide ((x.next (x.told s)).line=0)))/\Y4 w' b (x.next (x.told s))/\Rar w' p q (s.swap x.sa 0 2)/\Fr [b,p,q] w w':=by
 generalize hy:x.next (x.told s)=y;have HY:=q9 hy;clear hy;obtain ⟨c0,c1,c2,c3,c4,c5,c6,c7,c8⟩:=x8 h;have z:=h.frozen;go_enter Tryz.func106,Tryz.ntmps106;go_wp2_with fail;have k0:=qb c0;have k1:=qb c1;have k2:=qb c2;have k3:=qb c3;have k4:=qb c4;have k5:=qb c5;have k7:=qb c7;clear c0 c1 c2 c3 c4 c5 c6 c7 c8 z;refine wiq ?_;repeat (go_big_quiet_step (((go_at_call 126;exact Calls.in_ (xu x.c _ _ _ hc _)))))
 refine wpQuiet_nil ?_;intro w0 F0;rw [show yt x.c x.chunk x.mate x.i=x.sa from rfl];have h0:Y4 w0 b x:=Ob.up h F0;have A0:=hA.kept F0;have D0:Fr [b,p,q] w w0:=F0.mono;clear k0 k1 k2 k3 k4 k5 k7 h hA F0;obtain ⟨c0,c1,c2,c3,c4,c5,c6,c7,c8⟩:=x8 h0;have z:=h0.frozen;go_wp2_with fail;have A1:=A0;have h1:=h0;have D1:=D0;clear c0 c1 c2 c3 c4 c5 c6 c7 c8 z;refine (Ref.yn _ p q s _ 0 2 A1).mono ?_;rintro e w5 ⟨rfl,A5,F5⟩;exact I7
theorem q4u (x:Sl) (hl:x.line=5) (hc:x.c.Ok) (b p q:Nat) (s:St) (w:World) (h:Y4 w b x) (hA:Rar w p q s) (hp:b≠p) (hq:b≠q) :
  Calls Tryz.prog 106 #[.pointer (some ⟨b,0,none⟩),.pointer (some ⟨p,0,none⟩)] w fun e w'=>e = .returned (.bool (decide ((x.next (qw s.l 1)).line=0)))/\Y4 w' b (x.next (qw s.l 1))/\Rar w' p q (s.load 1)/\Fr [b,p,q] w w':=by
 generalize hy:x.next (qw s.l 1)=y;have HY:=q9 hy;clear hy;obtain ⟨c0,c1,c2,c3,c4,c5,c6,c7,c8⟩:=x8 h;have z:=h.frozen;go_enter Tryz.func106,Tryz.ntmps106;go_wp2_with fail;have k0:=qb c0;have k1:=qb c1;have k2:=qb c2;have k3:=qb c3;have k4:=qb c4;have k5:=qb c5;have k7:=qb c7;clear c0 c1 c2 c3 c4 c5 c6 c7 c8 z;refine wiq ?_;repeat (go_big_quiet_step (((go_at_call 126;exact Calls.in_ (xu x.c _ _ _ hc _)))))
 refine wpQuiet_nil ?_;intro w0 F0;rw [show yt x.c x.chunk x.mate x.i=x.sa from rfl];have h0:Y4 w0 b x:=Ob.up h F0;have A0:=hA.kept F0;have D0:Fr [b,p,q] w w0:=F0.mono;clear k0 k1 k2 k3 k4 k5 k7 h hA F0;obtain ⟨c0,c1,c2,c3,c4,c5,c6,c7,c8⟩:=x8 h0;have z:=h0.frozen;go_wp2_with fail;have A1:=A0;have h1:=h0;have D1:=D0;clear c0 c1 c2 c3 c4 c5 c6 c7 c8 z;refine (Ref.zl _ p q s 1 A1).mono ?_;rintro e w5 ⟨rfl,A5,F5⟩;have h5:=Ob.kept h1 F5 Lf;have D5:=zm D1 F5 Lc;clear A1 h1 D1 F5 A0 h0 D0;obtain ⟨c0,c1,c2,c3,c4,c5,c6,c7,c8⟩:=x8 h5;have z:=h5.frozen;have hn:y = { x with g:=qw s.l 1,line:=6 }:=by rw [<- HY.out];unfold Sl.next;simp [hl]
 subst hn;go_wp2_with fail;go_ret;exact ⟨rfl,(Ob.set (Ob.set h5 _) (i:=6) (.int .i64 6)),(Rar.set (Rar.set A5 hp hq _) hp hq (i:=6) (.int .i64 6)),(Fr.setCell' (Fr.setCell' D5 _ Lc) (b:=b) (i:=6) (.int .i64 6) Lc)⟩
theorem q45 (x:Sl) (hl:x.line=6) (hc:x.c.Ok) (b p q:Nat) (s:St) (w:World) (h:Y4 w b x) (hA:Rar w p q s) (hp:b≠p) (hq:b≠q) :
  Calls Tryz.prog 106 #[.pointer (some ⟨b,0,none⟩),.pointer (some ⟨p,0,none⟩)] w fun e w'=>e = .returned (.bool (decide ((x.next (x.told s)).line=0)))/\Y4 w' b (x.next (x.told s))/\Rar w' p q (s.swap x.sa 1 (vu x.g))/\Fr [b,p,q] w w':=by
 generalize hy:x.next (x.told s)=y;have HY:=q9 hy;clear hy;obtain ⟨c0,c1,c2,c3,c4,c5,c6,c7,c8⟩:=x8 h;have z:=h.frozen;go_enter Tryz.func106,Tryz.ntmps106;go_wp2_with fail;have k0:=qb c0;have k1:=qb c1;have k2:=qb c2;have k3:=qb c3;have k4:=qb c4;have k5:=qb c5;have k7:=qb c7;clear c0 c1 c2 c3 c4 c5 c6 c7 c8 z;refine wiq ?_;repeat (go_big_quiet_step (((go_at_call 126;exact Calls.in_ (xu x.c _ _ _ hc _)))))
 refine wpQuiet_nil ?_;intro w0 F0;rw [show yt x.c x.chunk x.mate x.i=x.sa from rfl];have h0:Y4 w0 b x:=Ob.up h F0;have A0:=hA.kept F0;have D0:Fr [b,p,q] w w0:=F0.mono;clear k0 k1 k2 k3 k4 k5 k7 h hA F0;obtain ⟨c0,c1,c2,c3,c4,c5,c6,c7,c8⟩:=x8 h0;have z:=h0.frozen;go_wp2_with fail;refine (Xb _ _).mono ?_;rintro e _ ⟨rfl,rfl⟩;go_wp2_with fail;have A1:=A0;have h1:=h0;have D1:=D0;clear c0 c1 c2 c3 c4 c5 c6 c7 c8 z;refine (Ref.yn _ p q s _ 1 _ A1).mono ?_;rintro e w5 ⟨rfl,A5,F5⟩;exact I7
theorem q4b (x:Sl) (hl:x.live=false) (hc:x.c.Ok) (b p q:Nat) (w:World) (h:Y4 w b x) :
  Calls Tryz.prog 106 #[.pointer (some ⟨b,0,none⟩),.pointer (some ⟨p,0,none⟩)] w fun e w'=>e = .returned (.bool (decide (x.line=0)))/\Fr [] w w':=by
 obtain ⟨c0,c1,c2,c3,c4,c5,c6,c7,c8⟩:=x8 h;unfold Sl.live at hl;have l1:x.line≠1:=by intro h;rw [h] at hl;simp at hl
 have l2:x.line≠2:=by intro h;rw [h] at hl;simp at hl
 have l3:x.line≠3:=by intro h;rw [h] at hl;simp at hl
 have l4:x.line≠4:=by intro h;rw [h] at hl;simp at hl
 have l5:x.line≠5:=by intro h;rw [h] at hl;simp at hl
 have l6:x.line≠6:=by intro h;rw [h] at hl;simp at hl
 clear hl;go_enter Tryz.func106,Tryz.ntmps106;go_wp2_with fail;have hcl:=c6;have k0:=qb c0;have k1:=qb c1;have k2:=qb c2;have k3:=qb c3;have k4:=qb c4;have k5:=qb c5;have k7:=qb c7;clear c0 c1 c2 c3 c4 c5 c6 c7 c8;refine wiq ?_;repeat (go_big_quiet_step (((go_at_call 126;exact Calls.in_ (xu x.c _ _ _ hc _)))))
 refine wpQuiet_nil ?_;intro w0 F0;rw [show yt x.c x.chunk x.mate x.i=x.sa from rfl];have c6:=F0.cell hcl Lc;exact H0
theorem q6t (x:Sl) (hc:x.c.Ok) (b p q:Nat) (s:St) (w:World) (h:Y4 w b x) (hA:Rar w p q s) (hp:b≠p) (hq:b≠q) :
  Calls Tryz.prog 106 #[.pointer (some ⟨b,0,none⟩),.pointer (some ⟨p,0,none⟩)] w fun e w'=>e = .returned (.bool (decide ((x.step s).1.line=0)))/\Y4 w' b (x.step s).1/\Rar w' p q (x.step s).2/\Fr [b,p,q] w w':=by
 unfold Sl.step;cases hl:x.live with
 | false=>exact (q4b x hl hc b p q w h).mono Lu
 | true =>
  unfold Sl.live at hl
  have hl':x.line=1\/x.line=2\/x.line=3\/x.line=4\/x.line=5\/x.line=6:=Dj
  rw [qf rfl];rcases hl' with l | l | l | l | l | l
  ·rw [show x.act s=s.store (wrap64 (x.chunk+6)) 1 by unfold Sl.act;simp [l]];exact q3m x l hc b p q s w h hA hp hq
  ·rw [show x.act s=s.store (wrap64 (x.mate+6)) 1 by unfold Sl.act;simp [l]];exact q3k x l hc b p q s w h hA hp hq
  ·rw [show x.act s=s.load x.sa by unfold Sl.act;simp [l],show x.told s=qw s.l x.sa by unfold Sl.told;simp [l]];exact q2v x l hc b p q s w h hA hp hq
  ·rw [show x.act s=s.swap x.sa 0 2 by unfold Sl.act;simp [l]];exact q3o x l hc b p q s w h hA hp hq
  ·rw [show x.act s=s.load 1 by unfold Sl.act;simp [l],show x.told s=qw s.l 1 by unfold Sl.told;simp [l]];exact q4u x l hc b p q s w h hA hp hq
  ·rw [show x.act s=s.swap x.sa 1 (vu x.g) by unfold Sl.act;simp [l]];exact q45 x l hc b p q s w h hA hp hq
structure Km where
 c:Cf
 t:Int
 seq:Int
 line:Int
 v:Int
 version:Int
 e:Int
def Km.cells (x:Km):Array Value:=#[.int .i64 x.c.t,.int .i64 x.c.c,.int .i64 x.c.wd,.int .i64 x.c.v,.int .i64 x.t,.int .i64 x.seq,.int .i64 x.line,.int .i64 x.v,.int .i64 x.version,.int .i64 x.e]
def Yz (w:World) (b:Nat) (x:Km):Prop:=Ob w b 146 x.cells
theorem yz {w:World} {b:Nat} {x:Km} (h:Yz w b x):w.cell? ⟨b,0,none⟩=some (.int .i64 x.c.t)/\w.cell? ⟨b,1,none⟩=some (.int .i64 x.c.c)/\w.cell? ⟨b,2,none⟩=some (.int .i64 x.c.wd)/\w.cell? ⟨b,3,none⟩=some (.int .i64 x.c.v)/\w.cell? ⟨b,4,none⟩=some (.int .i64 x.t)/\w.cell? ⟨b,5,none⟩=some (.int .i64 x.seq)/\w.cell? ⟨b,6,none⟩=some (.int .i64 x.line)/\w.cell? ⟨b,7,none⟩=some (.int .i64 x.v)/\w.cell? ⟨b,8,none⟩=some (.int .i64 x.version)/\w.cell? ⟨b,9,none⟩=some (.int .i64 x.e) :=
 ⟨h.cell rfl,h.cell rfl,h.cell rfl,h.cell rfl,h.cell rfl,h.cell rfl,h.cell rfl,h.cell rfl,h.cell rfl,h.cell rfl⟩
def Km.new (c:Cf) (t seq:Int):Km:=⟨c,t,seq,1,0,0,0⟩
def Km.pa (x:Km):Int:=q9t x.t
def Km.live (x:Km):Bool:=decide (1<=x.line) && decide (x.line<=5)
def Km.act (x:Km) (s:St):St :=
 if x.line=1 then s.load 1 else if x.line=2 then s.store x.pa (ko x.seq 1) else if x.line=3 then s.add 1 1 else if x.line=4 then s.swap x.pa (ko x.seq 1) (ko x.seq (wrap64 (x.v+2))) else s.load x.pa
def Km.told (x:Km) (s:St):Int:=if x.line=1\/x.line=3 then qw s.l 1 else qw s.l x.pa
def Km.next (x:Km) (v:Int):Km :=
 if x.line=1 then (if x.c.v<=v then { x with e:=15,line:=0 } else { x with line:=2 })
 else if x.line=2 then { x with line:=3 } else if x.line=3 then { x with v:=v,line:=4 } else if x.line=4 then { x with line:=5 } else { x with version:=kg v - 2,line:=0 }
def Km.step (x:Km) (s:St):Km×St:=if x.live=true then (x.next (x.told s),x.act s) else (x,s)
theorem R7 (c:Cf) (t seq:Int) (w:World):Calls Tryz.prog 86 #[c.val,.int .i64 t,.int .i64 seq] w fun e w'=>∃ b,e = .returned (.pointer (some ⟨b,0,none⟩))/\w.heap.size<=b/\Yz w' b (Km.new c t seq)/\Fr [] w w':=by unfold Cf.val;have F0:=(Fr.refl [] w).alloc (.cells #[.int .i64 c.t,.int .i64 c.c,.int .i64 c.wd,.int .i64 c.v] 23);obtain ⟨c0,c1,c2,c3⟩:=Pl.yu (Go.heap_alloc_new w (.cells #[.int .i64 c.t,.int .i64 c.c,.int .i64 c.wd,.int .i64 c.v] 23));go_enter Tryz.func86,Tryz.ntmps86;exact Bj
theorem q0d (x:Km) (hl:x.line=1) (hc:x.c.Ok) (ht:0<=x.t/\x.t<=8) (b p q:Nat) (s:St) (w:World) (h:Yz w b x) (hA:Rar w p q s) (hp:b≠p) (hq:b≠q) :
  Calls Tryz.prog 95 #[.pointer (some ⟨b,0,none⟩),.pointer (some ⟨p,0,none⟩)] w fun e w'=>e = .returned (.bool (decide ((x.next (qw s.l 1)).line=0)))/\Yz w' b (x.next (qw s.l 1))/\Rar w' p q (s.load 1)/\Fr [b,p,q] w w':=by
 generalize hy:x.next (qw s.l 1)=y;have HY:=q9 hy;clear hy;obtain ⟨c0,c1,c2,c3,c4,c5,c6,c7,c8,c9⟩:=yz h;have z:=h.frozen;go_enter Tryz.func95,Tryz.ntmps95;go_wp2_with fail;have h0:=h;have A0:=hA;have D0:=Fr.refl [b,p,q] w;clear h hA;have hw0:=q9 (Eq.refl w);refine (Ref.ku x.t ht.1 ht.2 _).mono ?_;rintro e _ ⟨rfl,rfl⟩;rw [show (3:Int)+x.t=x.pa from rfl];go_wp2_with fail;have A1:=(Rar.set A0 hp hq (i:=6) (.int .i64 2));have h1:Yz _ b { x with line:=2 }:=(Ob.set h0 (i:=6) (.int .i64 2));have D1:=(Fr.setCell' D0 (b:=b) (i:=6) (.int .i64 2) Lc);clear c0 c1 c2 c3 c4 c5 c6 c7 c8 c9 z;generalize (w.setCell ⟨b,6,none⟩ (.int .i64 2))=w1 at *;refine z7 Le [p,q] (fun w2 F2=>?_);refine epq [true,false,true,true,true,true,true,false] 2 (F2.mono) ?_;apply qg;refine ⟨fun wf Ff=>?_,?_⟩
 ·have hf:Yz wf b { x with line:=2 }:=Ob.kept h1 Ff Lf;obtain ⟨c0,c1,c2,c3,-,-,-,-,-,-⟩:=yz hf;have k0:=qb c0;have k1:=qb c1;have k2:=qb c2;have k3:=qb c3;clear hf c0 c1 c2 c3;exact Ab
 refine eoq 1 (fun w3 F3=>?_);have E3:=F2.trans F3;have A3:=A1.kept E3;have h3:=Ob.up h1 E3;have G3:=zm D1 E3 Lc;clear F2 F3 A1 h1 D1 A0 h0 D0;go_wp2_with fail;refine (Ref.zl _ p q s 1 A3).mono ?_;rintro e w4 ⟨rfl,A4,F4⟩;have E4:=(E3.mono (T:=[p,q]) Lc).trans F4;have h4:=h3.kept F4 Lf;have G4:=zm G3 F4 Lc;clear A3 h3 F4 G3 E3;go_wp2_with fail;refine ql ⟨E4,?_⟩;refine eoq 7 (fun wx Fx=>?_);replace E4:=E4.then Fx;replace h4:=h4.up Fx;replace A4:=A4.kept Fx;replace G4:=G4.then Fx;clear Fx;go_wp2_with fail;refine ql ⟨E4,?_⟩;refine zr Le (fun w5 F5=>?_);have D5:=G4.then F5;have h5:Yz w5 b { x with line:=2 }:=h4.up F5;have A5:=A4.kept F5;clear A4 h4 F5 G4 E4;obtain ⟨c0,c1,c2,c3,c4,c5,c6,c7,c8,c9⟩:=yz h5;have z:=h5.frozen;generalize hv:qw s.l 1=v at *;by_cases hv0:x.c.v<=v
 ·have hn:y = { x with e:=15,line:=0 }:=by rw [<- HY.out];unfold Km.next;simp [hl,hv0]
  subst hn;have g:decide (v≥x.c.v)=true:=by simpa using hv0
  exact Ca
 ·have hn:y = { x with line:=2 }:=by rw [<- HY.out];unfold Km.next;simp [hl,hv0]
  subst hn;have g:decide (v≥x.c.v)=false:=by simpa using hv0
  exact Ea
theorem q0m (x:Km) (hl:x.line=2) (hc:x.c.Ok) (ht:0<=x.t/\x.t<=8) (b p q:Nat) (s:St) (w:World) (h:Yz w b x) (hA:Rar w p q s) (hp:b≠p) (hq:b≠q) :
  Calls Tryz.prog 95 #[.pointer (some ⟨b,0,none⟩),.pointer (some ⟨p,0,none⟩)] w fun e w'=>e = .returned (.bool (decide ((x.next (x.told s)).line=0)))/\Yz w' b (x.next (x.told s))/\Rar w' p q (s.store x.pa (ko x.seq 1))/\Fr [b,p,q] w w':=by
 generalize hy:x.next (x.told s)=y;have HY:=q9 hy;clear hy;obtain ⟨c0,c1,c2,c3,c4,c5,c6,c7,c8,c9⟩:=yz h;have z:=h.frozen;go_enter Tryz.func95,Tryz.ntmps95;go_wp2_with fail;have h0:=h;have A0:=hA;have D0:=Fr.refl [b,p,q] w;clear h hA;have hw0:=q9 (Eq.refl w);refine (Ref.ku x.t ht.1 ht.2 _).mono ?_;rintro e _ ⟨rfl,rfl⟩;rw [show (3:Int)+x.t=x.pa from rfl];go_wp2_with fail;refine (Vm _ _ _).mono ?_;rintro e _ ⟨rfl,rfl⟩;go_wp2_with fail;have A1:=A0;have h1:=h0;have D1:=D0;clear c0 c1 c2 c3 c4 c5 c6 c7 c8 c9 z;refine (Ref.jr _ p q s _ _ A1).mono ?_;rintro e w5 ⟨rfl,A5,F5⟩;have h5:=Ob.kept h1 F5 Lf;have D5:=zm D1 F5 Lc;clear A1 h1 D1 F5 A0 h0 D0;obtain ⟨c0,c1,c2,c3,c4,c5,c6,c7,c8,c9⟩:=yz h5;have z:=h5.frozen;have hn:y = { x with line:=3 }:=by rw [<- HY.out];unfold Km.next;simp [hl]
 exact Ae
theorem q1n (x:Km) (hl:x.line=3) (hc:x.c.Ok) (ht:0<=x.t/\x.t<=8) (b p q:Nat) (s:St) (w:World) (h:Yz w b x) (hA:Rar w p q s) (hp:b≠p) (hq:b≠q) :
  Calls Tryz.prog 95 #[.pointer (some ⟨b,0,none⟩),.pointer (some ⟨p,0,none⟩)] w fun e w'=>e = .returned (.bool (decide ((x.next (qw s.l 1)).line=0)))/\Yz w' b (x.next (qw s.l 1))/\Rar w' p q (s.add 1 1)/\Fr [b,p,q] w w':=by
 generalize hy:x.next (qw s.l 1)=y;have HY:=q9 hy;clear hy;obtain ⟨c0,c1,c2,c3,c4,c5,c6,c7,c8,c9⟩:=yz h;have z:=h.frozen;go_enter Tryz.func95,Tryz.ntmps95;go_wp2_with fail;have h0:=h;have A0:=hA;have D0:=Fr.refl [b,p,q] w;clear h hA;have hw0:=q9 (Eq.refl w);refine (Ref.ku x.t ht.1 ht.2 _).mono ?_;rintro e _ ⟨rfl,rfl⟩;rw [show (3:Int)+x.t=x.pa from rfl];go_wp2_with fail;have A1:=A0;have h1:=h0;have D1:=D0;clear c0 c1 c2 c3 c4 c5 c6 c7 c8 c9 z;refine (Ref.Uy _ p q s 1 1 A1).mono ?_;rintro e w5 ⟨rfl,A5,F5⟩;have h5:=Ob.kept h1 F5 Lf;have D5:=zm D1 F5 Lc;clear A1 h1 D1 F5 A0 h0 D0;obtain ⟨c0,c1,c2,c3,c4,c5,c6,c7,c8,c9⟩:=yz h5;have z:=h5.frozen;have hn:y = { x with v:=qw s.l 1,line:=4 }:=by rw [<- HY.out];unfold Km.next;simp [hl]
 subst hn;go_wp2_with fail;go_ret;exact ⟨rfl,(Ob.set (Ob.set h5 _) (i:=6) (.int .i64 4)),(Rar.set (Rar.set A5 hp hq _) hp hq (i:=6) (.int .i64 4)),(Fr.setCell' (Fr.setCell' D5 _ Lc) (b:=b) (i:=6) (.int .i64 4) Lc)⟩
theorem q0h (x:Km) (hl:x.line=4) (hc:x.c.Ok) (ht:0<=x.t/\x.t<=8) (b p q:Nat) (s:St) (w:World) (h:Yz w b x) (hA:Rar w p q s) (hp:b≠p) (hq:b≠q) :
  Calls Tryz.prog 95 #[.pointer (some ⟨b,0,none⟩),.pointer (some ⟨p,0,none⟩)] w fun e w'=>e = .returned (.bool (decide ((x.next (x.told s)).line=0)))/\Yz w' b (x.next (x.told s))/\Rar w' p q (s.swap x.pa (ko x.seq 1) (ko x.seq (wrap64 (x.v+2))))/\Fr [b,p,q] w w':=by
 generalize hy:x.next (x.told s)=y;have HY:=q9 hy;clear hy;obtain ⟨c0,c1,c2,c3,c4,c5,c6,c7,c8,c9⟩:=yz h;have z:=h.frozen;go_enter Tryz.func95,Tryz.ntmps95;go_wp2_with fail;have h0:=h;have A0:=hA;have D0:=Fr.refl [b,p,q] w;clear h hA;have hw0:=q9 (Eq.refl w);refine (Ref.ku x.t ht.1 ht.2 _).mono ?_;rintro e _ ⟨rfl,rfl⟩;rw [show (3:Int)+x.t=x.pa from rfl];go_wp2_with fail;have A1:=A0;have h1:=h0;have D1:=D0;clear c0 c1 c2 c3 c4 c5 c6 c7 c8 c9 z;refine z7 Le [p,q] (fun w2 F2=>?_);refine epq [true,true,true,true,true,true,true,true,true,true,true,true,true,true,true,true,true,false] 1 (F2.mono) ?_;apply qg;refine ⟨fun wf Ff=>?_,?_⟩
 ·have hf:Yz wf b x:=Ob.kept h1 Ff Lf;obtain ⟨-,-,-,-,-,c5,-,c7,-,-⟩:=yz hf;have k5:=qb c5;have k7:=qb c7;clear hf c5 c7;simp only [sel];repeat (go_big_quiet_step ((first | (go_at_call 101;exact Calls.in_same (Vm _ _ _)))))
  exact wpQuiet_nil rfl
 refine eoq 17 (fun w3 F3=>?_);have E3:=F2.trans F3;have A3:=A1.kept E3;have h3:=Ob.up h1 E3;have G3:=zm D1 E3 Lc;clear F2 F3 A1 h1 D1 A0 h0 D0;go_wp2_with fail;refine (Ref.yn _ p q s _ _ _ A3).mono ?_;rintro e w4 ⟨rfl,A4,F4⟩;have E4:=(E3.mono (T:=[p,q]) Lc).trans F4;have h4:=h3.kept F4 Lf;have G4:=zm G3 F4 Lc;clear A3 h3 F4 G3 E3;go_wp2_with fail;refine ql ⟨E4,?_⟩;refine zr Le (fun w5 F5=>?_);have D5:=G4.then F5;have h5:Yz w5 b x:=h4.up F5;have A5:=A4.kept F5;clear A4 h4 F5 G4 E4;obtain ⟨c0,c1,c2,c3,c4,c5,c6,c7,c8,c9⟩:=yz h5;have z:=h5.frozen;have hn:y = { x with line:=5 }:=by rw [<- HY.out];unfold Km.next;simp [hl]
 exact Ae
theorem q0j (x:Km) (hl:x.line=5) (hc:x.c.Ok) (ht:0<=x.t/\x.t<=8) (b p q:Nat) (s:St) (w:World) (h:Yz w b x) (hA:Rar w p q s) (hp:b≠p) (hq:b≠q) :
  Calls Tryz.prog 95 #[.pointer (some ⟨b,0,none⟩),.pointer (some ⟨p,0,none⟩)] w fun e w'=>e = .returned (.bool (decide ((x.next (qw s.l x.pa)).line=0)))/\Yz w' b (x.next (qw s.l x.pa))/\Rar w' p q (s.load x.pa)/\Fr [b,p,q] w w':=by
 generalize hy:x.next (qw s.l x.pa)=y;have HY:=q9 hy;clear hy;obtain ⟨c0,c1,c2,c3,c4,c5,c6,c7,c8,c9⟩:=yz h;have z:=h.frozen;go_enter Tryz.func95,Tryz.ntmps95;go_wp2_with fail;have h0:=h;have A0:=hA;have D0:=Fr.refl [b,p,q] w;clear h hA;have hw0:=q9 (Eq.refl w);refine (Ref.ku x.t ht.1 ht.2 _).mono ?_;rintro e _ ⟨rfl,rfl⟩;rw [show (3:Int)+x.t=x.pa from rfl];go_wp2_with fail;have A1:=A0;have h1:=h0;have D1:=D0;clear c0 c1 c2 c3 c4 c5 c6 c7 c8 c9 z;refine (Ref.zl _ p q s _ A1).mono ?_;rintro e w5 ⟨rfl,A5,F5⟩;have h5:=Ob.kept h1 F5 Lf;have D5:=zm D1 F5 Lc;clear A1 h1 D1 F5 A0 h0 D0;obtain ⟨c0,c1,c2,c3,c4,c5,c6,c7,c8,c9⟩:=yz h5;have z:=h5.frozen;go_wp2_with fail;refine (Yd _ _).mono ?_;rintro e _ ⟨rfl,rfl⟩;have hpb:wrap64 (kg (qw s.l x.pa) - 2)=kg (qw s.l x.pa) - 2:=by unfold kg;exact w64 Lb Lb
 have hn:y = { x with version:=kg (qw s.l x.pa) - 2,line:=0 }:=by rw [<- HY.out];unfold Km.next;simp [hl]
 subst hn;exact Ca
theorem q10 (x:Km) (hl:x.live=false) (hc:x.c.Ok) (ht:0<=x.t/\x.t<=8) (b p q:Nat) (w:World) (h:Yz w b x) :
  Calls Tryz.prog 95 #[.pointer (some ⟨b,0,none⟩),.pointer (some ⟨p,0,none⟩)] w fun e w'=>e = .returned (.bool (decide (x.line=0)))/\Fr [] w w':=by
 obtain ⟨c0,c1,c2,c3,c4,c5,c6,c7,c8,c9⟩:=yz h;unfold Km.live at hl;have l1:x.line≠1:=by intro h;rw [h] at hl;simp at hl
 have l2:x.line≠2:=by intro h;rw [h] at hl;simp at hl
 have l3:x.line≠3:=by intro h;rw [h] at hl;simp at hl
 have l4:x.line≠4:=by intro h;rw [h] at hl;simp at hl
 have l5:x.line≠5:=by intro h;rw [h] at hl;simp at hl
 clear hl;go_enter Tryz.func95,Tryz.ntmps95;exact Cz
theorem U2 (x:Km) (hc:x.c.Ok) (ht:0<=x.t/\x.t<=8) (b p q:Nat) (s:St) (w:World) (h:Yz w b x) (hA:Rar w p q s) (hp:b≠p) (hq:b≠q) :
  Calls Tryz.prog 95 #[.pointer (some ⟨b,0,none⟩),.pointer (some ⟨p,0,none⟩)] w fun e w'=>e = .returned (.bool (decide ((x.step s).1.line=0)))/\Yz w' b (x.step s).1/\Rar w' p q (x.step s).2/\Fr [b,p,q] w w':=by
 unfold Km.step;cases hl:x.live with
 | false=>exact (q10 x hl hc ht b p q w h).mono Lu
 | true =>
  unfold Km.live at hl
  have hl':x.line=1\/x.line=2\/x.line=3\/x.line=4\/x.line=5:=Dj
  rw [qf rfl];rcases hl' with l | l | l | l | l
  ·rw [show x.act s=s.load 1 by unfold Km.act;simp [l],show x.told s=qw s.l 1 by unfold Km.told;simp [l]];exact q0d x l hc ht b p q s w h hA hp hq
  ·rw [show x.act s=s.store x.pa (ko x.seq 1) by unfold Km.act;simp [l]];exact q0m x l hc ht b p q s w h hA hp hq
  ·rw [show x.act s=s.add 1 1 by unfold Km.act;simp [l],show x.told s=qw s.l 1 by unfold Km.told;simp [l]];exact q1n x l hc ht b p q s w h hA hp hq
  ·rw [show x.act s=s.swap x.pa (ko x.seq 1) (ko x.seq (wrap64 (x.v+2))) by unfold Km.act;simp [l]];exact q0h x l hc ht b p q s w h hA hp hq
  ·rw [show x.act s=s.load x.pa by unfold Km.act;simp [l],show x.told s=qw s.l x.pa by unfold Km.told;simp [l]];exact q0j x l hc ht b p q s w h hA hp hq
end Go.Proofs.YtleclbldlladmaaGreat.Mx
