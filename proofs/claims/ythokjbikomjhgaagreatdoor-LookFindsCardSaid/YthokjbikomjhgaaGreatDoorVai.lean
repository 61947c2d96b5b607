/- Parts. -/
import Derived.Test.YthokjbikomjhgaaGreatDoorVad
set_option linter.unusedVariables false
set_option linter.unusedSimpArgs false
set_option maxRecDepth 100000
set_option maxHeartbeats 12800000
namespace Go.Proofs.YthokjbikomjhgaaGreatDoor.Mx
open Go.RowKit Ar Ref
structure Sp where
 c:Cf
 chunk:Int
 mate:Int
 repl:Int
 line:Int
 m:Int
 cur:Int
 w:Int
 n:Int
 stuck:Int
def Sp.cells (x:Sp):Array Value:=#[.int .i64 x.c.t,.int .i64 x.c.c,.int .i64 x.c.wd,.int .i64 x.c.v,.int .i64 x.chunk,.int .i64 x.mate,.int .i64 x.repl,.int .i64 x.line,.int .i64 x.m,.int .i64 x.cur,.int .i64 x.w,.int .i64 x.n,.int .i64 x.stuck]
def Zp (w:World) (b:Nat) (x:Sp):Prop:=Ob w b 311 x.cells
theorem xe {w:World} {b:Nat} {x:Sp} (h:Zp w b x):w.cell? ⟨b,0,none⟩=some (.int .i64 x.c.t)/\w.cell? ⟨b,1,none⟩=some (.int .i64 x.c.c)/\w.cell? ⟨b,2,none⟩=some (.int .i64 x.c.wd)/\w.cell? ⟨b,3,none⟩=some (.int .i64 x.c.v)/\w.cell? ⟨b,4,none⟩=some (.int .i64 x.chunk)/\w.cell? ⟨b,5,none⟩=some (.int .i64 x.mate)/\w.cell? ⟨b,6,none⟩=some (.int .i64 x.repl)/\w.cell? ⟨b,7,none⟩=some (.int .i64 x.line)/\w.cell? ⟨b,8,none⟩=some (.int .i64 x.m)/\w.cell? ⟨b,9,none⟩=some (.int .i64 x.cur)/\w.cell? ⟨b,10,none⟩=some (.int .i64 x.w)/\w.cell? ⟨b,11,none⟩=some (.int .i64 x.n)/\w.cell? ⟨b,12,none⟩=some (.int .i64 x.stuck) :=
 ⟨h.cell rfl,h.cell rfl,h.cell rfl,h.cell rfl,h.cell rfl,h.cell rfl,h.cell rfl,h.cell rfl,h.cell rfl,h.cell rfl,h.cell rfl,h.cell rfl,h.cell rfl⟩
def Sp.new (c:Cf) (chunk mate repl:Int):Sp:=⟨c,chunk,mate,repl,1,0,0,0,0,0⟩
def Sp.head (x:Sp):Sp:={ x with cur:=xn x.c,line:=3 }
def Sp.live (x:Sp):Bool:=decide (x.line=1) || (decide (3<=x.line) && decide (x.line<=8))
def Sp.hint (x:Sp):Int:=Vz x.c (hd x.m 0 63)
def Sp.act (x:Sp) (s:St):St :=
 if x.line=1 then s.load (wrap64 x.chunk) else if x.line=3 then s.load (wrap64 (x.cur+2)) else if x.line=4 then s.swap (wrap64 (x.cur+2)) x.w (jk x.repl false) else if x.line=5 then s.load (wrap64 x.n)
 else if x.line=6 then s.store (wrap64 (x.chunk+6)) 2 else if x.line=7 then s.store (wrap64 (x.mate+6)) 2 else s.store x.hint x.repl
def Sp.told (x:Sp) (s:St):Int :=
 if x.line=1 then qw s.l (wrap64 x.chunk) else if x.line=3 then qw s.l (wrap64 (x.cur+2)) else if x.line=4 then (if s.can (wrap64 (x.cur+2)) x.w then 1 else 0) else qw s.l (wrap64 x.n)
def Sp.next (x:Sp) (v:Int):Sp :=
 if x.line=1 then Sp.head { x with m:=v }
 else if x.line=3 then (if Kn v=true then { x with w:=v,n:=atW v,stuck:=x.cur,line:=0 } else if atW v=0 then { x with w:=v,n:=0,line:=6 } else if atW v=x.chunk then { x with w:=v,n:=atW v,line:=4 } else { x with w:=v,n:=atW v,line:=5 })
 else if x.line=4 then (if v=1 then { x with line:=6 } else x.head)
 else if x.line=5 then (if x.m<=v then { x with line:=6 } else { x with cur:=x.n,line:=3 })
 else if x.line=6 then (if x.mate=0 then { x with line:=8 } else { x with line:=7 })
 else if x.line=7 then { x with line:=8 } else { x with line:=0 }
theorem qd8 (m:Int):(if (0:Int)<(if (63:Int)<m then 63 else m) then (if (63:Int)<m then 63 else m) else 0)=hd m 0 63:=by unfold hd;(repeat' split) <;> omega
def Sp.step (x:Sp) (s:St):Sp×St:=if x.live=true then (x.next (x.told s),x.act s) else (x,s)
theorem Uy (c:Cf) (chunk mate repl:Int) (w:World):Calls Tryz.prog 236 #[c.val,.int .i64 chunk,.int .i64 mate,.int .i64 repl] w fun e w'=>∃ b,e = .returned (.pointer (some ⟨b,0,none⟩))/\w.heap.size<=b/\Zp w' b (Sp.new c chunk mate repl)/\Fr [] w w':=by unfold Cf.val;have F0:=(Fr.refl [] w).alloc (.cells #[.int .i64 c.t,.int .i64 c.c,.int .i64 c.wd,.int .i64 c.v] 23);obtain ⟨c0,c1,c2,c3⟩:=Pl.yp (Go.heap_alloc_new w (.cells #[.int .i64 c.t,.int .i64 c.c,.int .i64 c.wd,.int .i64 c.v] 23));go_enter Tryz.func236,Tryz.ntmps236;exact Bp
theorem Jy (x:Sp) (hc:x.c.Ok) (b:Nat) (w:World) (h:Zp w b x):Calls Tryz.prog 257 #[.pointer (some ⟨b,0,none⟩)] w fun e w'=>e = .returned (.tuple #[])/\Zp w' b x.head/\Fr [b] w w':=by
 obtain ⟨c0,c1,c2,c3,c4,c5,c6,c7,c8,c9,c10,c11,c12⟩:=xe h;go_enter Tryz.func257,Tryz.ntmps257;go_wp2_with fail;refine (Ref.Qo x.c.t x.c.c x.c.wd x.c.v hc.t1 hc.t8 _).mono ?_;rintro e w1 ⟨rfl,F1⟩;have h1:Zp w1 b x:=Ob.up h F1;have z1:=h1.frozen;clear c0 c1 c2 c3 c4 c5 c6 c7 c8 c9 c10 c11 c12;obtain ⟨-,-,-,-,-,-,-,c7,-,c9,-,-,-⟩:=xe h1;go_wp2;go_end0
 exact ⟨rfl,by
  have e:3+x.c.t+4=xn x.c:=by unfold xn;omega
  rw [e];exact (Ob.set h1 _).set _,(F1.mono).trans ((Fr.setCell _ Ll).setCell' _ Ll)⟩
theorem Rs (x:Sp) (hl:x.line=1) (hc:x.c.Ok) (b p q:Nat) (s:St) (w:World) (h:Zp w b x) (hA:Rar w p q s) (hp:b≠p) (hq:b≠q) :
  Calls Tryz.prog 244 #[.pointer (some ⟨b,0,none⟩),.pointer (some ⟨p,0,none⟩)] w fun e w'=>e = .returned (.bool (decide ((x.next (qw s.l (wrap64 x.chunk))).line=0)))/\Zp w' b (x.next (qw s.l (wrap64 x.chunk)))/\Rar w' p q (s.load (wrap64 x.chunk))/\Fr [b,p,q] w w':=by
 generalize hy:x.next (qw s.l (wrap64 x.chunk))=y;have HY:=q9 hy;clear hy;obtain ⟨c0,c1,c2,c3,c4,c5,c6,c7,c8,c9,c10,c11,c12⟩:=xe h;have z:=h.frozen;go_enter Tryz.func244,Tryz.ntmps244;go_wp2_with fail;have h0:=h;have A0:=hA;have D0:=Fr.refl [b,p,q] w;clear h hA;have hw0:=q9 (Eq.refl w);have A1:=A0;have h1:=h0;have D1:=D0;clear c0 c1 c2 c3 c4 c5 c6 c7 c8 c9 c10 c11 c12 z;refine (Ref.zl _ p q s _ A1).mono ?_;rintro e w5 ⟨rfl,A5,F5⟩;have h5:=Ob.kept h1 F5 Lp;have D5:=zm D1 F5 Ll;clear A1 h1 D1 F5 A0 h0 D0;obtain ⟨c0,c1,c2,c3,c4,c5,c6,c7,c8,c9,c10,c11,c12⟩:=xe h5;have z:=h5.frozen;generalize hv:qw s.l (wrap64 x.chunk)=v at *;have hn:y=Sp.head { x with m:=v }:=by rw [<- HY.out];unfold Sp.next;simp [hl]
 subst hn;go_wp2_with fail;have h6:Zp _ b { x with m:=v }:=(Ob.set h5 (i:=8) (.int .i64 v));have A6:=(Rar.set A5 hp hq (i:=8) (.int .i64 v));have D6:=(Fr.setCell' D5 (b:=b) (i:=8) (.int .i64 v) Ll);generalize (w5.setCell ⟨b,8,none⟩ (.int .i64 v))=w6 at *;clear c0 c1 c2 c3 c4 c5 c6 c7 c8 c9 c10 c11 c12 z;clear h5 A5 D5;refine (Jy { x with m:=v } hc b _ h6).mono ?_;rintro e w7 ⟨rfl,h7,F7⟩;exact Ck
theorem Rj (x:Sp) (hl:x.line=3) (hc:x.c.Ok) (b p q:Nat) (s:St) (w:World) (h:Zp w b x) (hA:Rar w p q s) (hp:b≠p) (hq:b≠q) :
  Calls Tryz.prog 244 #[.pointer (some ⟨b,0,none⟩),.pointer (some ⟨p,0,none⟩)] w fun e w'=>e = .returned (.bool (decide ((x.next (qw s.l (wrap64 (x.cur+2)))).line=0)))/\Zp w' b (x.next (qw s.l (wrap64 (x.cur+2))))/\Rar w' p q (s.load (wrap64 (x.cur+2)))/\Fr [b,p,q] w w':=by
 generalize hy:x.next (qw s.l (wrap64 (x.cur+2)))=y;have HY:=q9 hy;clear hy;obtain ⟨c0,c1,c2,c3,c4,c5,c6,c7,c8,c9,c10,c11,c12⟩:=xe h;have z:=h.frozen;go_enter Tryz.func244,Tryz.ntmps244;go_wp2_with fail;have h0:=h;have A0:=hA;have D0:=Fr.refl [b,p,q] w;clear h hA;have hw0:=q9 (Eq.refl w);have A1:=A0;have h1:=h0;have D1:=D0;clear c0 c1 c2 c3 c4 c5 c6 c7 c8 c9 c10 c11 c12 z;refine (Ref.zl _ p q s _ A1).mono ?_;rintro e w5 ⟨rfl,A5,F5⟩;have h5:=Ob.kept h1 F5 Lp;have D5:=zm D1 F5 Ll;clear A1 h1 D1 F5 A0 h0 D0;obtain ⟨c0,c1,c2,c3,c4,c5,c6,c7,c8,c9,c10,c11,c12⟩:=xe h5;have z:=h5.frozen;generalize hv:qw s.l (wrap64 (x.cur+2))=v at *;go_wp2_with fail;refine (Xw _ _).mono ?_;rintro e _ ⟨rfl,rfl⟩;go_wp2_with fail;have h6:Zp _ b { x with w:=v,n:=atW v }:=(Ob.set (Ob.set h5 (i:=10) (.int .i64 v)) (i:=11) (.int .i64 (atW v)));have A6:=(Rar.set (Rar.set A5 hp hq (i:=10) (.int .i64 v)) hp hq (i:=11) (.int .i64 (atW v)));have D6:=(Fr.setCell' (Fr.setCell' D5 (b:=b) (i:=10) (.int .i64 v) Ll) (b:=b) (i:=11) (.int .i64 (atW v)) Ll);generalize ((w5.setCell ⟨b,10,none⟩ (.int .i64 v)).setCell ⟨b,11,none⟩ (.int .i64 (atW v)))=w6 at *;clear c0 c1 c2 c3 c4 c5 c6 c7 c8 c9 c10 c11 c12 z;clear h5 A5 D5;refine (Yh _ _).mono ?_;rintro e _ ⟨rfl,rfl⟩;obtain ⟨c0,c1,c2,c3,c4,c5,c6,c7,c8,c9,c10,c11,c12⟩:=xe h6;have z:=h6.frozen;generalize ha:atW v=av at *;cases hm:Kn v
 ·by_cases hz0:av=0
  ·have hn:y = { x with w:=v,n:=0,line:=6 }:=by rw [<- HY.out];unfold Sp.next;simp [hl,hm,ha,hz0]
   subst hn;go_wp2_with fail;go_ret;rw [show ({ x with w:=v,n:=0,line:=6 }:Sp) = { x with w:=v,n:=av,line:=6 } by rw [<- hz0]];exact ⟨rfl,(Ob.set h6 _),(Rar.set A6 hp hq _),(Fr.setCell' D6 _ Ll)⟩
  ·have b0:(av == 0)=false:=by simpa using hz0
   go_wp2_with fail;have k4:=qb c4;have k11:=qb c11;clear c0 c1 c2 c3 c4 c5 c6 c7 c8 c9 c10 c11 c12 z;refine wiq ?_;repeat (go_big_quiet_step (fail))
   refine wpQuiet_nil ?_;intro w7 F7;have h7:=Ob.up h6 F7;have A7:=A6.kept F7;have D7:=D6.then F7;clear h6 A6 D6 F7 k4 k11;obtain ⟨c0,c1,c2,c3,c4,c5,c6,c7,c8,c9,c10,c11,c12⟩:=xe h7;have z:=h7.frozen;by_cases hc0:av=x.chunk
   ·have hn:y = { x with w:=v,n:=av,line:=4 }:=by rw [<- HY.out];unfold Sp.next;simp [hl,hm,ha,hz0,hc0];exact fun h=>hz0 (hc0.trans h)
    subst hn;have b1:(av == x.chunk)=true:=by simpa using hc0
    clear hc0;exact Eu
   ·have hn:y = { x with w:=v,n:=av,line:=5 }:=by rw [<- HY.out];unfold Sp.next;simp [hl,hm,ha,hz0,hc0]
    subst hn;have b1:(av == x.chunk)=false:=by simpa using hc0
    exact Eu
 ·have hn:y = { x with w:=v,n:=av,stuck:=x.cur,line:=0 }:=by rw [<- HY.out];unfold Sp.next;simp [hl,hm,ha]
  subst hn;go_wp2_with fail;go_ret;exact Cy
theorem Rb (x:Sp) (hl:x.line=4) (hc:x.c.Ok) (b p q:Nat) (s:St) (w:World) (h:Zp w b x) (hA:Rar w p q s) (hp:b≠p) (hq:b≠q) :
  Calls Tryz.prog 244 #[.pointer (some ⟨b,0,none⟩),.pointer (some ⟨p,0,none⟩)] w fun e w'=>e = .returned (.bool (decide ((x.next ((if s.can (wrap64 (x.cur+2)) x.w then 1 else 0))).line=0)))/\Zp w' b (x.next ((if s.can (wrap64 (x.cur+2)) x.w then 1 else 0)))/\Rar w' p q (s.swap (wrap64 (x.cur+2)) x.w (jk x.repl false))/\Fr [b,p,q] w w':=by
 generalize hy:x.next ((if s.can (wrap64 (x.cur+2)) x.w then 1 else 0))=y;have HY:=q9 hy;clear hy;obtain ⟨c0,c1,c2,c3,c4,c5,c6,c7,c8,c9,c10,c11,c12⟩:=xe h;have z:=h.frozen;go_enter Tryz.func244,Tryz.ntmps244;go_wp2_with fail;have h0:=h;have A0:=hA;have D0:=Fr.refl [b,p,q] w;clear h hA;have hw0:=q9 (Eq.refl w);have A1:=A0;have h1:=h0;have D1:=D0;clear c0 c1 c2 c3 c4 c5 c6 c7 c8 c9 c10 c11 c12 z;refine z7 Lm [p,q] (fun w2 F2=>?_);refine epq [true,true,true,true,true,true,true,true,true,true,true,true,true,true,true,false] 1 (F2.mono) ?_;apply qg;refine ⟨fun wf Ff=>?_,?_⟩
 ·have hf:Zp wf b x:=Ob.kept h1 Ff Lp;obtain ⟨-,-,-,-,-,-,c6,-,-,c9,c10,-,-⟩:=xe hf;have k6:=qb c6;have k9:=qb c9;have k10:=qb c10;clear hf c6 c9 c10;simp only [sel];repeat (go_big_quiet_step ((first | (go_at_call 138;exact Calls.in_same (Vx _ _ _)))))
  exact wpQuiet_nil rfl
 refine eoq 15 (fun w3 F3=>?_);have E3:=F2.trans F3;have A3:=A1.kept E3;have h3:=Ob.up h1 E3;have G3:=zm D1 E3 Ll;clear F2 F3 A1 h1 D1 A0 h0 D0;go_wp2_with fail;refine (Ref.yt _ p q s _ _ _ A3).mono ?_;rintro e w4 ⟨rfl,A4,F4⟩;have E4:=(E3.mono (T:=[p,q]) Ll).trans F4;have h4:=h3.kept F4 Lp;have G4:=zm G3 F4 Ll;clear A3 h3 F4 G3 E3;go_wp2_with fail;refine ql ⟨E4,?_⟩;refine zq Lm (fun w5 F5=>?_);have D5:=G4.then F5;have h5:Zp w5 b x:=h4.up F5;have A5:=A4.kept F5;clear A4 h4 F5 G4 E4;obtain ⟨c0,c1,c2,c3,c4,c5,c6,c7,c8,c9,c10,c11,c12⟩:=xe h5;have z:=h5.frozen;cases hv:s.can (wrap64 (x.cur+2)) x.w
 ·have hn:y=x.head:=by rw [<- HY.out];unfold Sp.next;simp [hl,hv]
  subst hn;go_wp2_with fail;have h6:=h5;have A6:=A5;have D6:=D5;clear c0 c1 c2 c3 c4 c5 c6 c7 c8 c9 c10 c11 c12 z;clear h5 A5 D5;refine (Jy x hc b _ h6).mono ?_;rintro e w7 ⟨rfl,h7,F7⟩;exact Ck
 ·have hn:y = { x with line:=6 }:=by rw [<- HY.out];unfold Sp.next;simp [hl,hv]
  exact Ae
theorem q07 (x:Sp) (hl:x.line=5) (hc:x.c.Ok) (b p q:Nat) (s:St) (w:World) (h:Zp w b x) (hA:Rar w p q s) (hp:b≠p) (hq:b≠q) :
  Calls Tryz.prog 244 #[.pointer (some ⟨b,0,none⟩),.pointer (some ⟨p,0,none⟩)] w fun e w'=>e = .returned (.bool (decide ((x.next (qw s.l (wrap64 x.n))).line=0)))/\Zp w' b (x.next (qw s.l (wrap64 x.n)))/\Rar w' p q (s.load (wrap64 x.n))/\Fr [b,p,q] w w':=by
 generalize hy:x.next (qw s.l (wrap64 x.n))=y;have HY:=q9 hy;clear hy;obtain ⟨c0,c1,c2,c3,c4,c5,c6,c7,c8,c9,c10,c11,c12⟩:=xe h;have z:=h.frozen;go_enter Tryz.func244,Tryz.ntmps244;go_wp2_with fail;have h0:=h;have A0:=hA;have D0:=Fr.refl [b,p,q] w;clear h hA;have hw0:=q9 (Eq.refl w);have A1:=A0;have h1:=h0;have D1:=D0;clear c0 c1 c2 c3 c4 c5 c6 c7 c8 c9 c10 c11 c12 z;refine z7 Lm [p,q] (fun w2 F2=>?_);refine epq [true,true,true,true,true,true,false,true,true,true,true,false] 2 (F2.mono) ?_;apply qg;refine ⟨fun wf Ff=>?_,?_⟩
 ·have hf:Zp wf b x:=Ob.kept h1 Ff Lp;obtain ⟨-,-,-,-,-,-,-,-,c8,-,-,c11,-⟩:=xe hf;have k8:=qb c8;have k11:=qb c11;clear hf c8 c11;exact Ab
 refine eoq 6 (fun w3 F3=>?_);have E3:=F2.trans F3;have A3:=A1.kept E3;have h3:=Ob.up h1 E3;have G3:=zm D1 E3 Ll;clear F2 F3 A1 h1 D1 A0 h0 D0;go_wp2_with fail;refine (Ref.zl _ p q s _ A3).mono ?_;rintro e w4 ⟨rfl,A4,F4⟩;have E4:=(E3.mono (T:=[p,q]) Ll).trans F4;have h4:=h3.kept F4 Lp;have G4:=zm G3 F4 Ll;clear A3 h3 F4 G3 E3;go_wp2_with fail;refine ql ⟨E4,?_⟩;refine eoq 11 (fun wx Fx=>?_);replace E4:=E4.then Fx;replace h4:=h4.up Fx;replace A4:=A4.kept Fx;replace G4:=G4.then Fx;clear Fx;go_wp2_with fail;refine ql ⟨E4,?_⟩;refine zq Lm (fun w5 F5=>?_);have D5:=G4.then F5;have h5:Zp w5 b x:=h4.up F5;have A5:=A4.kept F5;clear A4 h4 F5 G4 E4;obtain ⟨c0,c1,c2,c3,c4,c5,c6,c7,c8,c9,c10,c11,c12⟩:=xe h5;have z:=h5.frozen;generalize hv:qw s.l (wrap64 x.n)=v at *;by_cases hv0:x.m<=v
 ·have hn:y = { x with line:=6 }:=by rw [<- HY.out];unfold Sp.next;simp [hl,hv0]
  subst hn;have g:decide (v≥x.m)=true:=by simpa using hv0
  exact Ag
 ·have hn:y = { x with cur:=x.n,line:=3 }:=by rw [<- HY.out];unfold Sp.next;simp [hl,hv0]
  subst hn;have g:decide (v≥x.m)=false:=by simpa using hv0
  go_wp2_with fail;go_ret;exact ⟨rfl,(Ob.set (Ob.set h5 _) (i:=7) (.int .i64 3)),(Rar.set (Rar.set A5 hp hq _) hp hq (i:=7) (.int .i64 3)),(Fr.setCell' (Fr.setCell' D5 _ Ll) (b:=b) (i:=7) (.int .i64 3) Ll)⟩
theorem q0d (x:Sp) (hl:x.line=6) (hc:x.c.Ok) (b p q:Nat) (s:St) (w:World) (h:Zp w b x) (hA:Rar w p q s) (hp:b≠p) (hq:b≠q) :
  Calls Tryz.prog 244 #[.pointer (some ⟨b,0,none⟩),.pointer (some ⟨p,0,none⟩)] w fun e w'=>e = .returned (.bool (decide ((x.next (x.told s)).line=0)))/\Zp w' b (x.next (x.told s))/\Rar w' p q (s.store (wrap64 (x.chunk+6)) 2)/\Fr [b,p,q] w w':=by
 generalize hy:x.next (x.told s)=y;have HY:=q9 hy;clear hy;obtain ⟨c0,c1,c2,c3,c4,c5,c6,c7,c8,c9,c10,c11,c12⟩:=xe h;have z:=h.frozen;go_enter Tryz.func244,Tryz.ntmps244;go_wp2_with fail;have h0:=h;have A0:=hA;have D0:=Fr.refl [b,p,q] w;clear h hA;have hw0:=q9 (Eq.refl w);have A1:=A0;have h1:=h0;have D1:=D0;clear c0 c1 c2 c3 c4 c5 c6 c7 c8 c9 c10 c11 c12 z;refine (Ref.jh _ p q s _ 2 A1).mono ?_;rintro e w5 ⟨rfl,A5,F5⟩;have h5:=Ob.kept h1 F5 Lp;have D5:=zm D1 F5 Ll;clear A1 h1 D1 F5 A0 h0 D0;obtain ⟨c0,c1,c2,c3,c4,c5,c6,c7,c8,c9,c10,c11,c12⟩:=xe h5;have z:=h5.frozen;by_cases hm:x.mate=0
 ·have hn:y = { x with line:=8 }:=by rw [<- HY.out];unfold Sp.next;simp [hl,hm]
  subst hn;go_wp2_with fail;go_ret;rw [show ({ x with mate:=0,line:=8 }:Sp) = { x with line:=8 } by rw [<- hm]];exact Ah
 ·have hn:y = { x with line:=7 }:=by rw [<- HY.out];unfold Sp.next;simp [hl,hm]
  exact Ao
theorem Rh (x:Sp) (hl:x.line=7) (hc:x.c.Ok) (b p q:Nat) (s:St) (w:World) (h:Zp w b x) (hA:Rar w p q s) (hp:b≠p) (hq:b≠q) :
  Calls Tryz.prog 244 #[.pointer (some ⟨b,0,none⟩),.pointer (some ⟨p,0,none⟩)] w fun e w'=>e = .returned (.bool (decide ((x.next (x.told s)).line=0)))/\Zp w' b (x.next (x.told s))/\Rar w' p q (s.store (wrap64 (x.mate+6)) 2)/\Fr [b,p,q] w w':=by
 generalize hy:x.next (x.told s)=y;have HY:=q9 hy;clear hy;obtain ⟨c0,c1,c2,c3,c4,c5,c6,c7,c8,c9,c10,c11,c12⟩:=xe h;have z:=h.frozen;go_enter Tryz.func244,Tryz.ntmps244;go_wp2_with fail;have h0:=h;have A0:=hA;have D0:=Fr.refl [b,p,q] w;clear h hA;have hw0:=q9 (Eq.refl w);have A1:=A0;have h1:=h0;have D1:=D0;clear c0 c1 c2 c3 c4 c5 c6 c7 c8 c9 c10 c11 c12 z;refine (Ref.jh _ p q s _ 2 A1).mono ?_;rintro e w5 ⟨rfl,A5,F5⟩;have h5:=Ob.kept h1 F5 Lp;have D5:=zm D1 F5 Ll;clear A1 h1 D1 F5 A0 h0 D0;obtain ⟨c0,c1,c2,c3,c4,c5,c6,c7,c8,c9,c10,c11,c12⟩:=xe h5;have z:=h5.frozen;have hn:y = { x with line:=8 }:=by rw [<- HY.out];unfold Sp.next;simp [hl]
 exact Ae
theorem Ry (x:Sp) (hl:x.line=8) (hc:x.c.Ok) (b p q:Nat) (s:St) (w:World) (h:Zp w b x) (hA:Rar w p q s) (hp:b≠p) (hq:b≠q) :
  Calls Tryz.prog 244 #[.pointer (some ⟨b,0,none⟩),.pointer (some ⟨p,0,none⟩)] w fun e w'=>e = .returned (.bool (decide ((x.next (x.told s)).line=0)))/\Zp w' b (x.next (x.told s))/\Rar w' p q (s.store x.hint x.repl)/\Fr [b,p,q] w w':=by
 generalize hy:x.next (x.told s)=y;have HY:=q9 hy;clear hy;obtain ⟨c0,c1,c2,c3,c4,c5,c6,c7,c8,c9,c10,c11,c12⟩:=xe h;have z:=h.frozen;go_enter Tryz.func244,Tryz.ntmps244;go_wp2_with fail;have h0:=h;have A0:=hA;have D0:=Fr.refl [b,p,q] w;clear h hA;have hw0:=q9 (Eq.refl w);have A1:=A0;have h1:=h0;have D1:=D0;clear c0 c1 c2 c3 c4 c5 c6 c7 c8 c9 c10 c11 c12 z;refine z7 Lm [p,q] (fun w2 F2=>?_);refine epq [true,true,true,true,true,true,true,true,true,true,true,true,true,true,true,true,false] 1 (F2.mono) ?_;apply qg;refine ⟨fun wf Ff=>?_,?_⟩
 ·have hf:Zp wf b x:=Ob.kept h1 Ff Lp;obtain ⟨c0,c1,c2,c3,-,-,c6,-,c8,-,-,-,-⟩:=xe hf;have k0:=qb c0;have k1:=qb c1;have k2:=qb c2;have k3:=qb c3;have k6:=qb c6;have k8:=qb c8;clear hf c0 c1 c2 c3 c6 c8;simp only [sel];repeat (go_big_quiet_step ((first | (go_at_call 217;exact Calls.in_ (Ref.Um x.c.t x.c.c x.c.wd x.c.v _ hc.t1 hc.t8 (by (repeat' split) <;> omega) (by (repeat' split) <;> omega) _)))))
  exact wpQuiet_nil rfl
 rw [qd8 x.m];generalize (if (63:Int)<x.m then (63:Int) else x.m)=k63;refine eoq 16 (fun w3 F3=>?_);have E3:=F2.trans F3;have A3:=A1.kept E3;have h3:=Ob.up h1 E3;have G3:=zm D1 E3 Ll;clear F2 F3 A1 h1 D1 A0 h0 D0;go_wp2_with fail;refine (Ref.jh _ p q s _ _ A3).mono ?_;rintro e w4 ⟨rfl,A4,F4⟩;have E4:=(E3.mono (T:=[p,q]) Ll).trans F4;have h4:=h3.kept F4 Lp;have G4:=zm G3 F4 Ll;clear A3 h3 F4 G3 E3;go_wp2_with fail;refine ql ⟨E4,?_⟩;refine zq Lm (fun w5 F5=>?_);have D5:=G4.then F5;have h5:Zp w5 b x:=h4.up F5;have A5:=A4.kept F5;clear A4 h4 F5 G4 E4;obtain ⟨c0,c1,c2,c3,c4,c5,c6,c7,c8,c9,c10,c11,c12⟩:=xe h5;have z:=h5.frozen;rw [show (3:Int)+x.c.t+hd x.m 0 63 / 16=x.hint from rfl] at A5;have hn:y = { x with line:=0 }:=by rw [<- HY.out];unfold Sp.next;simp [hl]
 exact Ae
theorem Rc (x:Sp) (hl:x.live=false) (hc:x.c.Ok) (b p q:Nat) (w:World) (h:Zp w b x) :
  Calls Tryz.prog 244 #[.pointer (some ⟨b,0,none⟩),.pointer (some ⟨p,0,none⟩)] w fun e w'=>e = .returned (.bool (decide (x.line=0)))/\Fr [] w w':=by
 obtain ⟨c0,c1,c2,c3,c4,c5,c6,c7,c8,c9,c10,c11,c12⟩:=xe h;unfold Sp.live at hl;have l1:x.line≠1:=by intro h;rw [h] at hl;simp at hl
 have l3:x.line≠3:=by intro h;rw [h] at hl;simp at hl
 have l4:x.line≠4:=by intro h;rw [h] at hl;simp at hl
 have l5:x.line≠5:=by intro h;rw [h] at hl;simp at hl
 have l6:x.line≠6:=by intro h;rw [h] at hl;simp at hl
 have l7:x.line≠7:=by intro h;rw [h] at hl;simp at hl
 have l8:x.line≠8:=by intro h;rw [h] at hl;simp at hl
 clear hl;go_enter Tryz.func244,Tryz.ntmps244;exact Ez
theorem q0s (x:Sp) (hc:x.c.Ok) (b p q:Nat) (s:St) (w:World) (h:Zp w b x) (hA:Rar w p q s) (hp:b≠p) (hq:b≠q) :
  Calls Tryz.prog 244 #[.pointer (some ⟨b,0,none⟩),.pointer (some ⟨p,0,none⟩)] w fun e w'=>e = .returned (.bool (decide ((x.step s).1.line=0)))/\Zp w' b (x.step s).1/\Rar w' p q (x.step s).2/\Fr [b,p,q] w w':=by
 unfold Sp.step;cases hl:x.live with
 | false=>exact (Rc x hl hc b p q w h).mono Mg
 | true =>
  unfold Sp.live at hl
  have hl':x.line=1\/x.line=3\/x.line=4\/x.line=5\/x.line=6\/x.line=7\/x.line=8:=Dp
  rw [qf rfl];rcases hl' with l | l | l | l | l | l | l
  ·rw [show x.act s=s.load (wrap64 x.chunk) by unfold Sp.act;simp [l],show x.told s=qw s.l (wrap64 x.chunk) by unfold Sp.told;simp [l]];exact Rs x l hc b p q s w h hA hp hq
  ·rw [show x.act s=s.load (wrap64 (x.cur+2)) by unfold Sp.act;simp [l],show x.told s=qw s.l (wrap64 (x.cur+2)) by unfold Sp.told;simp [l]];exact Rj x l hc b p q s w h hA hp hq
  ·rw [show x.act s=s.swap (wrap64 (x.cur+2)) x.w (jk x.repl false) by unfold Sp.act;simp [l],show x.told s=(if s.can (wrap64 (x.cur+2)) x.w then 1 else 0) by unfold Sp.told;simp [l]];exact Rb x l hc b p q s w h hA hp hq
  ·rw [show x.act s=s.load (wrap64 x.n) by unfold Sp.act;simp [l],show x.told s=qw s.l (wrap64 x.n) by unfold Sp.told;simp [l]];exact q07 x l hc b p q s w h hA hp hq
  ·rw [show x.act s=s.store (wrap64 (x.chunk+6)) 2 by unfold Sp.act;simp [l]];exact q0d x l hc b p q s w h hA hp hq
  ·rw [show x.act s=s.store (wrap64 (x.mate+6)) 2 by unfold Sp.act;simp [l]];exact Rh x l hc b p q s w h hA hp hq
  ·rw [show x.act s=s.store x.hint x.repl by unfold Sp.act;simp [l]];exact Ry x l hc b p q s w h hA hp hq
end Go.Proofs.YthokjbikomjhgaaGreatDoor.Mx
