/- Parts. -/
import Derived.Test.YtleclbldlladmaaGreatVad
set_option linter.unusedVariables false
set_option linter.unusedSimpArgs false
set_option maxRecDepth 100000
set_option maxHeartbeats 12800000
namespace Go.Proofs.YtleclbldlladmaaGreat.Mx
open Go.RowKit Ar Ref
structure Ld where
 c:Cf
 chunk:Int
 draw:Bool
 drew:Bool
 line:Int
 l:Int
 n:Int
 w:Int
 mate:Int
 alone:Bool
 after:Int
def Ld.cells (x:Ld):Array Value:=#[.int .i64 x.c.t,.int .i64 x.c.c,.int .i64 x.c.wd,.int .i64 x.c.v,.int .i64 x.chunk,.bool x.draw,.bool x.drew,.int .i64 x.line,.int .i64 x.l,.int .i64 x.n,.int .i64 x.w,.int .i64 x.mate,.bool x.alone,.int .i64 x.after]
def yd (w:World) (b:Nat) (x:Ld):Prop:=Ob w b 160 x.cells
theorem ze {w:World} {b:Nat} {x:Ld} (h:yd w b x):w.cell? ⟨b,0,none⟩=some (.int .i64 x.c.t)/\w.cell? ⟨b,1,none⟩=some (.int .i64 x.c.c)/\w.cell? ⟨b,2,none⟩=some (.int .i64 x.c.wd)/\w.cell? ⟨b,3,none⟩=some (.int .i64 x.c.v)/\w.cell? ⟨b,4,none⟩=some (.int .i64 x.chunk)/\w.cell? ⟨b,5,none⟩=some (.bool x.draw)/\w.cell? ⟨b,6,none⟩=some (.bool x.drew)/\w.cell? ⟨b,7,none⟩=some (.int .i64 x.line)/\w.cell? ⟨b,8,none⟩=some (.int .i64 x.l)/\w.cell? ⟨b,9,none⟩=some (.int .i64 x.n)/\w.cell? ⟨b,10,none⟩=some (.int .i64 x.w)/\w.cell? ⟨b,11,none⟩=some (.int .i64 x.mate)/\w.cell? ⟨b,12,none⟩=some (.bool x.alone)/\w.cell? ⟨b,13,none⟩=some (.int .i64 x.after) :=
 ⟨h.cell rfl,h.cell rfl,h.cell rfl,h.cell rfl,h.cell rfl,h.cell rfl,h.cell rfl,h.cell rfl,h.cell rfl,h.cell rfl,h.cell rfl,h.cell rfl,h.cell rfl,h.cell rfl⟩
def or1 (w:Int):Int:=bits .or .i64 w 1
def Ld.new (c:Cf) (chunk:Int) (draw:Bool):Ld:=⟨c,chunk,draw,false,1,0,0,0,0,false,0⟩
def Ld.toAlone (x:Ld):Ld:={ x with alone:=true,after:=x.n,line:=0 }
def Ld.eight (x:Ld):Ld:=if x.mate=1\/x.n=0 then Ld.toAlone { x with line:=8 } else { x with line:=8 }
def Ld.live (x:Ld):Bool:=decide (1<=x.line) && decide (x.line<=11)
def Ld.who (x:Ld):Int:=if x.draw=true/\x.n≠0 then x.n else 1
def Ld.act (x:Ld) (s:St):St :=
 if x.line=1 then s.swap (wrap64 (x.chunk+3)) 0 x.chunk else if x.line=2 then s.load (wrap64 (x.chunk+3)) else if x.line=3 then s.load (wrap64 (x.l+2))
 else if x.line=4 then s.swap (wrap64 (x.l+2)) x.w (or1 x.w) else if x.line=5 then s.load (wrap64 (x.l+4)) else if x.line=6 then s.swap (wrap64 (x.l+4)) 0 x.who else if x.line=7 then s.load (wrap64 (x.l+4))
 else if x.line=8 then s.swap (wrap64 (x.n+3)) 0 x.l else if x.line=9 then s.load (wrap64 (x.n+3)) else if x.line=10 then s.load (wrap64 (x.n+2)) else s.swap (wrap64 (x.n+2)) x.w (or1 x.w)
def Ld.told (x:Ld) (s:St):Int :=
 if x.line=2 then qw s.l (wrap64 (x.chunk+3)) else if x.line=3 then qw s.l (wrap64 (x.l+2)) else if x.line=5\/x.line=7 then qw s.l (wrap64 (x.l+4)) else if x.line=9 then qw s.l (wrap64 (x.n+3)) else qw s.l (wrap64 (x.n+2))
def Ld.next (x:Ld) (v:Int):Ld :=
 if x.line=1 then { x with line:=2 } else if x.line=2 then { x with l:=v,line:=3 }
 else if x.line=3 then (if Jw v=true then { x with w:=v,n:=atW v,line:=5 } else { x with w:=v,line:=4 })
 else if x.line=4 then { x with line:=3 }
 else if x.line=5 then (if v=0 then { x with mate:=0,line:=6 } else Ld.eight { x with mate:=v,line:=6 })
 else if x.line=6 then { x with drew:=true,line:=7 } else if x.line=7 then Ld.eight { x with mate:=v }
 else if x.line=8 then { x with line:=9 } else if x.line=9 then (if v=x.l then { x with line:=10 } else Ld.toAlone { x with line:=10 })
 else if x.line=10 then (if Jw v=true then { x with w:=v,after:=atW v,line:=0 } else { x with w:=v,line:=11 })
 else { x with line:=10 }
def Ld.step (x:Ld) (s:St):Ld×St:=if x.live=true then (x.next (x.told s),x.act s) else (x,s)
theorem Vf (c:Cf) (chunk:Int) (draw:Bool) (w:World):Calls Tryz.prog 137 #[c.val,.int .i64 chunk,.bool draw] w fun e w'=>∃ b,e = .returned (.pointer (some ⟨b,0,none⟩))/\w.heap.size<=b/\yd w' b (Ld.new c chunk draw)/\Fr [] w w':=by unfold Cf.val;have F0:=(Fr.refl [] w).alloc (.cells #[.int .i64 c.t,.int .i64 c.c,.int .i64 c.wd,.int .i64 c.v] 23);obtain ⟨c0,c1,c2,c3⟩:=Pl.yu (Go.heap_alloc_new w (.cells #[.int .i64 c.t,.int .i64 c.c,.int .i64 c.wd,.int .i64 c.v] 23));go_enter Tryz.func137,Tryz.ntmps137;exact Bj
theorem Yt (x:Ld) (b:Nat) (w:World) (h:yd w b x):Calls Tryz.prog 139 #[.pointer (some ⟨b,0,none⟩)] w fun e w'=>e = .returned (.tuple #[])/\yd w' b x.toAlone/\Fr [b] w w':=by obtain ⟨c0,c1,c2,c3,c4,c5,c6,c7,c8,c9,c10,c11,c12,c13⟩:=ze h;have z:=h.frozen;go_enter Tryz.func139,Tryz.ntmps139;go_wp2;go_end0;exact ⟨rfl,((Ob.set h _).set _).set _,((Fr.setCell _ Lc).setCell' _ Lc).setCell' _ Lc⟩
theorem Wl (x:Ld) (b:Nat) (w:World) (h:yd w b x):Calls Tryz.prog 124 #[.pointer (some ⟨b,0,none⟩)] w fun e w'=>e = .returned (.tuple #[])/\yd w' b x.eight/\Fr [b] w w':=by
 generalize hy:x.eight=y;have HY:=q9 hy;clear hy;obtain ⟨c0,c1,c2,c3,c4,c5,c6,c7,c8,c9,c10,c11,c12,c13⟩:=ze h;have z:=h.frozen;by_cases hm:x.mate=1
 ·have hn:y=Ld.toAlone { x with line:=8 }:=by rw [<- HY.out];unfold Ld.eight;simp [hm]
  exact Bc
 ·by_cases hn0:x.n=0
  ·have hn:y=Ld.toAlone { x with line:=8 }:=by rw [<- HY.out];unfold Ld.eight;simp [hn0]
   exact Bc
  ·have hn:y = { x with line:=8 }:=by rw [<- HY.out];unfold Ld.eight;simp [hm,hn0]
   have HN:=q9 hn;clear hn;go_enter Tryz.func124,Tryz.ntmps124;have b1:(x.mate == 1)=false:=by simpa using hm
   have b2:(x.n == 0)=false:=by simpa using hn0
   go_wp2_with fail;go_end0;exact ⟨rfl,by rw [HN.out];exact Ob.set h _,Fr.setCell _ Lc⟩
theorem q48 (x:Ld) (hl:x.line=1) (hc:x.c.Ok) (b p q:Nat) (s:St) (w:World) (h:yd w b x) (hA:Rar w p q s) (hp:b≠p) (hq:b≠q) :
  Calls Tryz.prog 103 #[.pointer (some ⟨b,0,none⟩),.pointer (some ⟨p,0,none⟩)] w fun e w'=>e = .returned (.bool (decide ((x.next (x.told s)).line=0)))/\yd w' b (x.next (x.told s))/\Rar w' p q (s.swap (wrap64 (x.chunk+3)) 0 x.chunk)/\Fr [b,p,q] w w':=by
 generalize hy:x.next (x.told s)=y;have HY:=q9 hy;clear hy;obtain ⟨c0,c1,c2,c3,c4,c5,c6,c7,c8,c9,c10,c11,c12,c13⟩:=ze h;have z:=h.frozen;go_enter Tryz.func103,Tryz.ntmps103;go_wp2_with fail;have h0:=h;have A0:=hA;have D0:=Fr.refl [b,p,q] w;clear h hA;have hw0:=q9 (Eq.refl w);have A1:=A0;have h1:=h0;have D1:=D0;clear c0 c1 c2 c3 c4 c5 c6 c7 c8 c9 c10 c11 c12 c13 z;refine z7 Le [p,q] (fun w2 F2=>?_);refine epq [true,true,true,true,true,true,true,true,true,true,false] 1 (F2.mono) ?_;apply qg;refine ⟨fun wf Ff=>?_,?_⟩
 ·have hf:yd wf b x:=Ob.kept h1 Ff Lf;obtain ⟨-,-,-,-,c4,-,-,-,-,-,-,-,-,-⟩:=ze hf;have k4:=qb c4;clear hf c4;exact Ab
 refine eoq 10 (fun w3 F3=>?_);have E3:=F2.trans F3;have A3:=A1.kept E3;have h3:=Ob.up h1 E3;have G3:=zm D1 E3 Lc;clear F2 F3 A1 h1 D1 A0 h0 D0;go_wp2_with fail;refine (Ref.yn _ p q s _ 0 _ A3).mono ?_;rintro e w4 ⟨rfl,A4,F4⟩;have E4:=(E3.mono (T:=[p,q]) Lc).trans F4;have h4:=h3.kept F4 Lf;have G4:=zm G3 F4 Lc;clear A3 h3 F4 G3 E3;go_wp2_with fail;refine ql ⟨E4,?_⟩;refine zr Le (fun w5 F5=>?_);have D5:=G4.then F5;have h5:yd w5 b x:=h4.up F5;have A5:=A4.kept F5;clear A4 h4 F5 G4 E4;obtain ⟨c0,c1,c2,c3,c4,c5,c6,c7,c8,c9,c10,c11,c12,c13⟩:=ze h5;have z:=h5.frozen;have hn:y = { x with line:=2 }:=by rw [<- HY.out];unfold Ld.next;simp [hl]
 exact Ae
theorem q43 (x:Ld) (hl:x.line=2) (hc:x.c.Ok) (b p q:Nat) (s:St) (w:World) (h:yd w b x) (hA:Rar w p q s) (hp:b≠p) (hq:b≠q) :
  Calls Tryz.prog 103 #[.pointer (some ⟨b,0,none⟩),.pointer (some ⟨p,0,none⟩)] w fun e w'=>e = .returned (.bool (decide ((x.next (qw s.l (wrap64 (x.chunk+3)))).line=0)))/\yd w' b (x.next (qw s.l (wrap64 (x.chunk+3))))/\Rar w' p q (s.load (wrap64 (x.chunk+3)))/\Fr [b,p,q] w w':=by
 generalize hy:x.next (qw s.l (wrap64 (x.chunk+3)))=y;have HY:=q9 hy;clear hy;obtain ⟨c0,c1,c2,c3,c4,c5,c6,c7,c8,c9,c10,c11,c12,c13⟩:=ze h;have z:=h.frozen;go_enter Tryz.func103,Tryz.ntmps103;go_wp2_with fail;have h0:=h;have A0:=hA;have D0:=Fr.refl [b,p,q] w;clear h hA;have hw0:=q9 (Eq.refl w);have A1:=A0;have h1:=h0;have D1:=D0;clear c0 c1 c2 c3 c4 c5 c6 c7 c8 c9 c10 c11 c12 c13 z;refine (Ref.zl _ p q s _ A1).mono ?_;rintro e w5 ⟨rfl,A5,F5⟩;have h5:=Ob.kept h1 F5 Lf;have D5:=zm D1 F5 Lc;clear A1 h1 D1 F5 A0 h0 D0;obtain ⟨c0,c1,c2,c3,c4,c5,c6,c7,c8,c9,c10,c11,c12,c13⟩:=ze h5;have z:=h5.frozen;have hn:y = { x with l:=qw s.l (wrap64 (x.chunk+3)),line:=3 }:=by rw [<- HY.out];unfold Ld.next;simp [hl]
 subst hn;go_wp2_with fail;go_ret;exact ⟨rfl,(Ob.set (Ob.set h5 (i:=8) (.int .i64 (qw s.l (wrap64 (x.chunk+3))))) (i:=7) (.int .i64 3)),(Rar.set (Rar.set A5 hp hq (i:=8) (.int .i64 (qw s.l (wrap64 (x.chunk+3))))) hp hq (i:=7) (.int .i64 3)),(Fr.setCell' (Fr.setCell' D5 (b:=b) (i:=8) (.int .i64 (qw s.l (wrap64 (x.chunk+3)))) Lc) (b:=b) (i:=7) (.int .i64 3) Lc)⟩
theorem q2w (x:Ld) (hl:x.line=3) (hc:x.c.Ok) (b p q:Nat) (s:St) (w:World) (h:yd w b x) (hA:Rar w p q s) (hp:b≠p) (hq:b≠q) :
  Calls Tryz.prog 103 #[.pointer (some ⟨b,0,none⟩),.pointer (some ⟨p,0,none⟩)] w fun e w'=>e = .returned (.bool (decide ((x.next (qw s.l (wrap64 (x.l+2)))).line=0)))/\yd w' b (x.next (qw s.l (wrap64 (x.l+2))))/\Rar w' p q (s.load (wrap64 (x.l+2)))/\Fr [b,p,q] w w':=by
 generalize hy:x.next (qw s.l (wrap64 (x.l+2)))=y;have HY:=q9 hy;clear hy;obtain ⟨c0,c1,c2,c3,c4,c5,c6,c7,c8,c9,c10,c11,c12,c13⟩:=ze h;have z:=h.frozen;go_enter Tryz.func103,Tryz.ntmps103;go_wp2_with fail;have h0:=h;have A0:=hA;have D0:=Fr.refl [b,p,q] w;clear h hA;have hw0:=q9 (Eq.refl w);have A1:=A0;have h1:=h0;have D1:=D0;clear c0 c1 c2 c3 c4 c5 c6 c7 c8 c9 c10 c11 c12 c13 z;refine (Ref.zl _ p q s _ A1).mono ?_;rintro e w5 ⟨rfl,A5,F5⟩;have h5:=Ob.kept h1 F5 Lf;have D5:=zm D1 F5 Lc;clear A1 h1 D1 F5 A0 h0 D0;obtain ⟨c0,c1,c2,c3,c4,c5,c6,c7,c8,c9,c10,c11,c12,c13⟩:=ze h5;have z:=h5.frozen;generalize hv:qw s.l (wrap64 (x.l+2))=v at *;go_wp2_with fail;have h6:yd _ b { x with w:=v,line:=4 }:=Ob.set (Ob.set h5 (i:=10) (.int .i64 v)) (i:=7) (.int .i64 4);have A6:=Rar.set (Rar.set A5 hp hq (i:=10) (.int .i64 v)) hp hq (i:=7) (.int .i64 4);have D6:=Fr.setCell' (Fr.setCell' D5 (b:=b) (i:=10) (.int .i64 v) Lc) (b:=b) (i:=7) (.int .i64 4) Lc;generalize ((w5.setCell ⟨b,10,none⟩ (.int .i64 v)).setCell ⟨b,7,none⟩ (.int .i64 4))=w6 at *;clear h5 A5 D5;clear c0 c1 c2 c3 c4 c5 c6 c7 c8 c9 c10 c11 c12 c13 z;refine (Yh _ _).mono ?_;rintro e _ ⟨rfl,rfl⟩;obtain ⟨c0,c1,c2,c3,c4,c5,c6,c7,c8,c9,c10,c11,c12,c13⟩:=ze h6;have z:=h6.frozen;cases hm:Jw v
 ·have hn:y = { x with w:=v,line:=4 }:=by rw [<- HY.out];unfold Ld.next;simp [hl,hm]
  subst hn;go_wp2_with fail;go_ret;exact ⟨rfl,h6,A6,D6⟩
 ·have hn:y = { x with w:=v,n:=atW v,line:=5 }:=by rw [<- HY.out];unfold Ld.next;simp [hl,hm]
  subst hn;go_wp2_with fail;refine (Xt _ _).mono ?_;rintro e _ ⟨rfl,rfl⟩;go_wp2_with fail;go_ret;exact ⟨rfl,(Ob.set (Ob.set h6 _) (i:=7) (.int .i64 5)),(Rar.set (Rar.set A6 hp hq _) hp hq (i:=7) (.int .i64 5)),(Fr.setCell' (Fr.setCell' D6 _ Lc) (b:=b) (i:=7) (.int .i64 5) Lc)⟩
theorem q4p (x:Ld) (hl:x.line=4) (hc:x.c.Ok) (b p q:Nat) (s:St) (w:World) (h:yd w b x) (hA:Rar w p q s) (hp:b≠p) (hq:b≠q) :
  Calls Tryz.prog 103 #[.pointer (some ⟨b,0,none⟩),.pointer (some ⟨p,0,none⟩)] w fun e w'=>e = .returned (.bool (decide ((x.next (x.told s)).line=0)))/\yd w' b (x.next (x.told s))/\Rar w' p q (s.swap (wrap64 (x.l+2)) x.w (or1 x.w))/\Fr [b,p,q] w w':=by
 generalize hy:x.next (x.told s)=y;have HY:=q9 hy;clear hy;obtain ⟨c0,c1,c2,c3,c4,c5,c6,c7,c8,c9,c10,c11,c12,c13⟩:=ze h;have z:=h.frozen;go_enter Tryz.func103,Tryz.ntmps103;go_wp2_with fail;have h0:=h;have A0:=hA;have D0:=Fr.refl [b,p,q] w;clear h hA;have hw0:=q9 (Eq.refl w);have A1:=A0;have h1:=h0;have D1:=D0;clear c0 c1 c2 c3 c4 c5 c6 c7 c8 c9 c10 c11 c12 c13 z;refine z7 Le [p,q] (fun w2 F2=>?_);refine epq [true,true,true,true,true,true,true,true,true,true,true,true,true,true,true,false] 1 (F2.mono) ?_;apply qg;refine ⟨fun wf Ff=>?_,?_⟩
 ·have hf:yd wf b x:=Ob.kept h1 Ff Lf;obtain ⟨-,-,-,-,-,-,-,-,c8,-,c10,-,-,-⟩:=ze hf;have k8:=qb c8;have k10:=qb c10;clear hf c8 c10;exact Ab
 refine eoq 15 (fun w3 F3=>?_);have E3:=F2.trans F3;have A3:=A1.kept E3;have h3:=Ob.up h1 E3;have G3:=zm D1 E3 Lc;clear F2 F3 A1 h1 D1 A0 h0 D0;go_wp2_with fail;refine (Ref.yn _ p q s _ _ _ A3).mono ?_;rintro e w4 ⟨rfl,A4,F4⟩;have E4:=(E3.mono (T:=[p,q]) Lc).trans F4;have h4:=h3.kept F4 Lf;have G4:=zm G3 F4 Lc;clear A3 h3 F4 G3 E3;go_wp2_with fail;refine ql ⟨E4,?_⟩;refine zr Le (fun w5 F5=>?_);have D5:=G4.then F5;have h5:yd w5 b x:=h4.up F5;have A5:=A4.kept F5;clear A4 h4 F5 G4 E4;obtain ⟨c0,c1,c2,c3,c4,c5,c6,c7,c8,c9,c10,c11,c12,c13⟩:=ze h5;have z:=h5.frozen;rw [show bits .or .i64 x.w 1=or1 x.w from rfl] at A5 ⊢;have hn:y = { x with line:=3 }:=by rw [<- HY.out];unfold Ld.next;simp [hl]
 exact Ae
theorem q4s (x:Ld) (hl:x.line=5) (hc:x.c.Ok) (b p q:Nat) (s:St) (w:World) (h:yd w b x) (hA:Rar w p q s) (hp:b≠p) (hq:b≠q) :
  Calls Tryz.prog 103 #[.pointer (some ⟨b,0,none⟩),.pointer (some ⟨p,0,none⟩)] w fun e w'=>e = .returned (.bool (decide ((x.next (qw s.l (wrap64 (x.l+4)))).line=0)))/\yd w' b (x.next (qw s.l (wrap64 (x.l+4))))/\Rar w' p q (s.load (wrap64 (x.l+4)))/\Fr [b,p,q] w w':=by
 generalize hy:x.next (qw s.l (wrap64 (x.l+4)))=y;have HY:=q9 hy;clear hy;obtain ⟨c0,c1,c2,c3,c4,c5,c6,c7,c8,c9,c10,c11,c12,c13⟩:=ze h;have z:=h.frozen;go_enter Tryz.func103,Tryz.ntmps103;go_wp2_with fail;have h0:=h;have A0:=hA;have D0:=Fr.refl [b,p,q] w;clear h hA;have hw0:=q9 (Eq.refl w);have A1:=A0;have h1:=h0;have D1:=D0;clear c0 c1 c2 c3 c4 c5 c6 c7 c8 c9 c10 c11 c12 c13 z;refine (Ref.zl _ p q s _ A1).mono ?_;rintro e w5 ⟨rfl,A5,F5⟩;have h5:=Ob.kept h1 F5 Lf;have D5:=zm D1 F5 Lc;clear A1 h1 D1 F5 A0 h0 D0;obtain ⟨c0,c1,c2,c3,c4,c5,c6,c7,c8,c9,c10,c11,c12,c13⟩:=ze h5;have z:=h5.frozen;generalize hv:qw s.l (wrap64 (x.l+4))=v at *;by_cases hv0:v=0
 ·have hn:y = { x with mate:=0,line:=6 }:=by rw [<- HY.out];unfold Ld.next;simp [hl,hv0]
  subst hn;go_wp2_with fail;go_ret;exact ⟨rfl,(Ob.set (Ob.set h5 _) (i:=7) (.int .i64 6)),(Rar.set (Rar.set A5 hp hq _) hp hq (i:=7) (.int .i64 6)),(Fr.setCell' (Fr.setCell' D5 _ Lc) (b:=b) (i:=7) (.int .i64 6) Lc)⟩
 ·have hn:y=Ld.eight { x with mate:=v,line:=6 }:=by rw [<- HY.out];unfold Ld.next;simp [hl,hv0]
  subst hn;go_wp2_with fail;have h6:yd _ b { x with mate:=v,line:=6 }:=(Ob.set (Ob.set h5 (i:=11) (.int .i64 v)) (i:=7) (.int .i64 6));have A6:=(Rar.set (Rar.set A5 hp hq (i:=11) (.int .i64 v)) hp hq (i:=7) (.int .i64 6));have D6:=(Fr.setCell' (Fr.setCell' D5 (b:=b) (i:=11) (.int .i64 v) Lc) (b:=b) (i:=7) (.int .i64 6) Lc);generalize ((w5.setCell ⟨b,11,none⟩ (.int .i64 v)).setCell ⟨b,7,none⟩ (.int .i64 6))=w6 at *;clear c0 c1 c2 c3 c4 c5 c6 c7 c8 c9 c10 c11 c12 c13 z;clear h5 A5 D5;refine (Wl { x with mate:=v,line:=6 } b _ h6).mono ?_;rintro e w7 ⟨rfl,h7,F7⟩;exact Ik
theorem q0k (x:Ld) (hl:x.line=6) (hd:x.draw=false) (hc:x.c.Ok) (b p q:Nat) (s:St) (w:World) (h:yd w b x) (hA:Rar w p q s) (hp:b≠p) (hq:b≠q) :
  Calls Tryz.prog 103 #[.pointer (some ⟨b,0,none⟩),.pointer (some ⟨p,0,none⟩)] w fun e w'=>e = .returned (.bool (decide ((x.next (x.told s)).line=0)))/\yd w' b (x.next (x.told s))/\Rar w' p q (s.swap (wrap64 (x.l+4)) 0 x.who)/\Fr [b,p,q] w w':=by
 generalize hy:x.next (x.told s)=y;have HY:=q9 hy;clear hy;obtain ⟨c0,c1,c2,c3,c4,c5,c6,c7,c8,c9,c10,c11,c12,c13⟩:=ze h;have z:=h.frozen;rw [hd] at c5;have HW:=q9 (show x.who=1 by unfold Ld.who;simp [hd]);clear hd;exact Af
theorem q0b (x:Ld) (hl:x.line=6) (hd:x.draw=true) (hn0:x.n=0) (hc:x.c.Ok) (b p q:Nat) (s:St) (w:World) (h:yd w b x) (hA:Rar w p q s) (hp:b≠p) (hq:b≠q) :
  Calls Tryz.prog 103 #[.pointer (some ⟨b,0,none⟩),.pointer (some ⟨p,0,none⟩)] w fun e w'=>e = .returned (.bool (decide ((x.next (x.told s)).line=0)))/\yd w' b (x.next (x.told s))/\Rar w' p q (s.swap (wrap64 (x.l+4)) 0 x.who)/\Fr [b,p,q] w w':=by
 generalize hy:x.next (x.told s)=y;have HY:=q9 hy;clear hy;obtain ⟨c0,c1,c2,c3,c4,c5,c6,c7,c8,c9,c10,c11,c12,c13⟩:=ze h;have z:=h.frozen;rw [hd] at c5;have HW:=q9 (show x.who=1 by unfold Ld.who;simp [hn0]);have b2:(x.n != 0)=false:=by simp [hn0]
 clear hd hn0;exact Af
theorem q08 (x:Ld) (hl:x.line=6) (hd:x.draw=true) (hn0:¬ x.n=0) (hc:x.c.Ok) (b p q:Nat) (s:St) (w:World) (h:yd w b x) (hA:Rar w p q s) (hp:b≠p) (hq:b≠q) :
  Calls Tryz.prog 103 #[.pointer (some ⟨b,0,none⟩),.pointer (some ⟨p,0,none⟩)] w fun e w'=>e = .returned (.bool (decide ((x.next (x.told s)).line=0)))/\yd w' b (x.next (x.told s))/\Rar w' p q (s.swap (wrap64 (x.l+4)) 0 x.who)/\Fr [b,p,q] w w':=by
 generalize hy:x.next (x.told s)=y;have HY:=q9 hy;clear hy;obtain ⟨c0,c1,c2,c3,c4,c5,c6,c7,c8,c9,c10,c11,c12,c13⟩:=ze h;have z:=h.frozen;rw [hd] at c5;have HW:=q9 (show x.who=x.n by unfold Ld.who;simp [hd,hn0]);have b2:(x.n != 0)=true:=by simpa using hn0
 clear hd hn0;exact Af
theorem q46 (x:Ld) (hl:x.line=6) (hc:x.c.Ok) (b p q:Nat) (s:St) (w:World) (h:yd w b x) (hA:Rar w p q s) (hp:b≠p) (hq:b≠q) :
  Calls Tryz.prog 103 #[.pointer (some ⟨b,0,none⟩),.pointer (some ⟨p,0,none⟩)] w fun e w'=>e = .returned (.bool (decide ((x.next (x.told s)).line=0)))/\yd w' b (x.next (x.told s))/\Rar w' p q (s.swap (wrap64 (x.l+4)) 0 x.who)/\Fr [b,p,q] w w':=by
 cases hd:x.draw
 ·exact q0k x hl hd hc b p q s w h hA hp hq
 ·by_cases hn0:x.n=0
  ·exact q0b x hl hd hn0 hc b p q s w h hA hp hq
  ·exact q08 x hl hd hn0 hc b p q s w h hA hp hq
theorem q3p (x:Ld) (hl:x.line=7) (hc:x.c.Ok) (b p q:Nat) (s:St) (w:World) (h:yd w b x) (hA:Rar w p q s) (hp:b≠p) (hq:b≠q) :
  Calls Tryz.prog 103 #[.pointer (some ⟨b,0,none⟩),.pointer (some ⟨p,0,none⟩)] w fun e w'=>e = .returned (.bool (decide ((x.next (qw s.l (wrap64 (x.l+4)))).line=0)))/\yd w' b (x.next (qw s.l (wrap64 (x.l+4))))/\Rar w' p q (s.load (wrap64 (x.l+4)))/\Fr [b,p,q] w w':=by
 generalize hy:x.next (qw s.l (wrap64 (x.l+4)))=y;have HY:=q9 hy;clear hy;obtain ⟨c0,c1,c2,c3,c4,c5,c6,c7,c8,c9,c10,c11,c12,c13⟩:=ze h;have z:=h.frozen;go_enter Tryz.func103,Tryz.ntmps103;go_wp2_with fail;have h0:=h;have A0:=hA;have D0:=Fr.refl [b,p,q] w;clear h hA;have hw0:=q9 (Eq.refl w);have A1:=A0;have h1:=h0;have D1:=D0;clear c0 c1 c2 c3 c4 c5 c6 c7 c8 c9 c10 c11 c12 c13 z;refine (Ref.zl _ p q s _ A1).mono ?_;rintro e w5 ⟨rfl,A5,F5⟩;have h5:=Ob.kept h1 F5 Lf;have D5:=zm D1 F5 Lc;clear A1 h1 D1 F5 A0 h0 D0;obtain ⟨c0,c1,c2,c3,c4,c5,c6,c7,c8,c9,c10,c11,c12,c13⟩:=ze h5;have z:=h5.frozen;generalize hv:qw s.l (wrap64 (x.l+4))=v at *;have hn:y=Ld.eight { x with mate:=v }:=by rw [<- HY.out];unfold Ld.next;simp [hl]
 subst hn;go_wp2_with fail;have h6:yd _ b { x with mate:=v }:=(Ob.set h5 (i:=11) (.int .i64 v));have A6:=(Rar.set A5 hp hq (i:=11) (.int .i64 v));have D6:=(Fr.setCell' D5 (b:=b) (i:=11) (.int .i64 v) Lc);generalize (w5.setCell ⟨b,11,none⟩ (.int .i64 v))=w6 at *;clear c0 c1 c2 c3 c4 c5 c6 c7 c8 c9 c10 c11 c12 c13 z;clear h5 A5 D5;refine (Wl { x with mate:=v } b _ h6).mono ?_;rintro e w7 ⟨rfl,h7,F7⟩;exact Ik
theorem q3n (x:Ld) (hl:x.line=8) (hc:x.c.Ok) (b p q:Nat) (s:St) (w:World) (h:yd w b x) (hA:Rar w p q s) (hp:b≠p) (hq:b≠q) :
  Calls Tryz.prog 125 #[.pointer (some ⟨b,0,none⟩),.pointer (some ⟨p,0,none⟩)] w fun e w'=>e = .returned (.tuple #[])/\yd w' b (x.next (x.told s))/\Rar w' p q (s.swap (wrap64 (x.n+3)) 0 x.l)/\Fr [b,p,q] w w':=by
 generalize hy:x.next (x.told s)=y;have HY:=q9 hy;clear hy;obtain ⟨c0,c1,c2,c3,c4,c5,c6,c7,c8,c9,c10,c11,c12,c13⟩:=ze h;have z:=h.frozen;go_enter Tryz.func125,Tryz.ntmps125;go_wp2_with fail;have h0:=h;have A0:=hA;have D0:=Fr.refl [b,p,q] w;clear h hA;have hw0:=q9 (Eq.refl w);have A1:=A0;have h1:=h0;have D1:=D0;clear c0 c1 c2 c3 c4 c5 c6 c7 c8 c9 c10 c11 c12 c13 z;refine z7 Le [p,q] (fun w2 F2=>?_);refine epq [true,true,true,true,true,true,true,true,true,true,false] 1 (F2.mono) ?_;apply qg;refine ⟨fun wf Ff=>?_,?_⟩
 ·have hf:yd wf b x:=Ob.kept h1 Ff Lf;exact Im
 refine eoq 10 (fun w3 F3=>?_);have E3:=F2.trans F3;have A3:=A1.kept E3;have h3:=Ob.up h1 E3;have G3:=zm D1 E3 Lc;clear F2 F3 A1 h1 D1 A0 h0 D0;go_wp2_with fail;refine (Ref.yn _ p q s _ 0 _ A3).mono ?_;rintro e w4 ⟨rfl,A4,F4⟩;have E4:=(E3.mono (T:=[p,q]) Lc).trans F4;have h4:=h3.kept F4 Lf;have G4:=zm G3 F4 Lc;clear A3 h3 F4 G3 E3;go_wp2_with fail;refine ql ⟨E4,?_⟩;refine zr Le (fun w5 F5=>?_);have D5:=G4.then F5;have h5:yd w5 b x:=h4.up F5;have A5:=A4.kept F5;clear A4 h4 F5 G4 E4;obtain ⟨c0,c1,c2,c3,c4,c5,c6,c7,c8,c9,c10,c11,c12,c13⟩:=ze h5;have z:=h5.frozen;have hn:y = { x with line:=9 }:=by rw [<- HY.out];unfold Ld.next;simp [hl]
 subst hn;go_wp2_with fail;go_end0;exact Ah
theorem q3v (x:Ld) (hl:x.line=9) (hc:x.c.Ok) (b p q:Nat) (s:St) (w:World) (h:yd w b x) (hA:Rar w p q s) (hp:b≠p) (hq:b≠q) :
  Calls Tryz.prog 125 #[.pointer (some ⟨b,0,none⟩),.pointer (some ⟨p,0,none⟩)] w fun e w'=>e = .returned (.tuple #[])/\yd w' b (x.next (qw s.l (wrap64 (x.n+3))))/\Rar w' p q (s.load (wrap64 (x.n+3)))/\Fr [b,p,q] w w':=by
 generalize hy:x.next (qw s.l (wrap64 (x.n+3)))=y;have HY:=q9 hy;clear hy;obtain ⟨c0,c1,c2,c3,c4,c5,c6,c7,c8,c9,c10,c11,c12,c13⟩:=ze h;have z:=h.frozen;go_enter Tryz.func125,Tryz.ntmps125;go_wp2_with fail;have h0:=h;have A0:=hA;have D0:=Fr.refl [b,p,q] w;clear h hA;have hw0:=q9 (Eq.refl w);have A1:=(Rar.set A0 hp hq (i:=7) (.int .i64 10));have h1:yd _ b { x with line:=10 }:=(Ob.set h0 (i:=7) (.int .i64 10));have D1:=(Fr.setCell' D0 (b:=b) (i:=7) (.int .i64 10) Lc);clear c0 c1 c2 c3 c4 c5 c6 c7 c8 c9 c10 c11 c12 c13 z;generalize (w.setCell ⟨b,7,none⟩ (.int .i64 10))=w1 at *;refine z7 Le [p,q] (fun w2 F2=>?_);refine epq [true,true,true,true,true,true,false,true,true,true,true,false] 2 (F2.mono) ?_;apply qg;refine ⟨fun wf Ff=>?_,?_⟩
 ·have hf:yd wf b { x with line:=10 }:=Ob.kept h1 Ff Lf;exact Im
 refine eoq 6 (fun w3 F3=>?_);have E3:=F2.trans F3;have A3:=A1.kept E3;have h3:=Ob.up h1 E3;have G3:=zm D1 E3 Lc;clear F2 F3 A1 h1 D1 A0 h0 D0;go_wp2_with fail;refine (Ref.zl _ p q s _ A3).mono ?_;rintro e w4 ⟨rfl,A4,F4⟩;have E4:=(E3.mono (T:=[p,q]) Lc).trans F4;have h4:=h3.kept F4 Lf;have G4:=zm G3 F4 Lc;clear A3 h3 F4 G3 E3;go_wp2_with fail;refine ql ⟨E4,?_⟩;refine eoq 11 (fun wx Fx=>?_);replace E4:=E4.then Fx;replace h4:=h4.up Fx;replace A4:=A4.kept Fx;replace G4:=G4.then Fx;clear Fx;go_wp2_with fail;refine ql ⟨E4,?_⟩;refine zr Le (fun w5 F5=>?_);have D5:=G4.then F5;have h5:yd w5 b { x with line:=10 }:=h4.up F5;have A5:=A4.kept F5;clear A4 h4 F5 G4 E4;obtain ⟨c0,c1,c2,c3,c4,c5,c6,c7,c8,c9,c10,c11,c12,c13⟩:=ze h5;have z:=h5.frozen;generalize hv:qw s.l (wrap64 (x.n+3))=v at *;by_cases hv0:v=x.l
 ·have hn:y = { x with line:=10 }:=by rw [<- HY.out];unfold Ld.next;simp [hl,hv0]
  subst hn;have g:(v != x.l)=false:=by simp [hv0]
  go_wp2_with fail;go_end0;exact ⟨rfl,h5,A5,D5⟩
 ·have hn:y=Ld.toAlone { x with line:=10 }:=by rw [<- HY.out];unfold Ld.next;simp [hl,hv0]
  subst hn;have g:(v != x.l)=true:=by simpa using hv0
  go_wp2_with fail;have h6:=h5;have A6:=A5;have D6:=D5;clear c0 c1 c2 c3 c4 c5 c6 c7 c8 c9 c10 c11 c12 c13 z;clear h5 A5 D5;refine (Yt { x with line:=10 } b _ h6).mono ?_;rintro e w7 ⟨rfl,h7,F7⟩;have A7:=A6.kept F7 Li Lj;have D7:=zm D6 F7 Lc;clear h6 A6 D6 F7;obtain ⟨-,-,-,-,-,-,-,c7,-,-,-,-,-,-⟩:=ze h7;go_wp2_with fail;go_end0;exact ⟨rfl,h7,A7,D7⟩
theorem q1e (x:Ld) (hl:x.line=10) (hc:x.c.Ok) (b p q:Nat) (s:St) (w:World) (h:yd w b x) (hA:Rar w p q s) (hp:b≠p) (hq:b≠q) :
  Calls Tryz.prog 125 #[.pointer (some ⟨b,0,none⟩),.pointer (some ⟨p,0,none⟩)] w fun e w'=>e = .returned (.tuple #[])/\yd w' b (x.next (qw s.l (wrap64 (x.n+2))))/\Rar w' p q (s.load (wrap64 (x.n+2)))/\Fr [b,p,q] w w':=by
 generalize hy:x.next (qw s.l (wrap64 (x.n+2)))=y;have HY:=q9 hy;clear hy;obtain ⟨c0,c1,c2,c3,c4,c5,c6,c7,c8,c9,c10,c11,c12,c13⟩:=ze h;have z:=h.frozen;go_enter Tryz.func125,Tryz.ntmps125;go_wp2_with fail;have h0:=h;have A0:=hA;have D0:=Fr.refl [b,p,q] w;clear h hA;have hw0:=q9 (Eq.refl w);have A1:=A0;have h1:=h0;have D1:=D0;clear c0 c1 c2 c3 c4 c5 c6 c7 c8 c9 c10 c11 c12 c13 z;refine (Ref.zl _ p q s _ A1).mono ?_;rintro e w5 ⟨rfl,A5,F5⟩;have h5:=Ob.kept h1 F5 Lf;have D5:=zm D1 F5 Lc;clear A1 h1 D1 F5 A0 h0 D0;obtain ⟨c0,c1,c2,c3,c4,c5,c6,c7,c8,c9,c10,c11,c12,c13⟩:=ze h5;have z:=h5.frozen;generalize hv:qw s.l (wrap64 (x.n+2))=v at *;go_wp2_with fail;have h6:yd _ b { x with w:=v,line:=11 }:=Ob.set (Ob.set h5 (i:=10) (.int .i64 v)) (i:=7) (.int .i64 11);have A6:=Rar.set (Rar.set A5 hp hq (i:=10) (.int .i64 v)) hp hq (i:=7) (.int .i64 11);have D6:=Fr.setCell' (Fr.setCell' D5 (b:=b) (i:=10) (.int .i64 v) Lc) (b:=b) (i:=7) (.int .i64 11) Lc;generalize ((w5.setCell ⟨b,10,none⟩ (.int .i64 v)).setCell ⟨b,7,none⟩ (.int .i64 11))=w6 at *;clear h5 A5 D5;clear c0 c1 c2 c3 c4 c5 c6 c7 c8 c9 c10 c11 c12 c13 z;refine (Yh _ _).mono ?_;rintro e _ ⟨rfl,rfl⟩;obtain ⟨c0,c1,c2,c3,c4,c5,c6,c7,c8,c9,c10,c11,c12,c13⟩:=ze h6;have z:=h6.frozen;cases hm:Jw v
 ·have hn:y = { x with w:=v,line:=11 }:=by rw [<- HY.out];unfold Ld.next;simp [hl,hm]
  subst hn;go_wp2_with fail;go_end0;exact ⟨rfl,h6,A6,D6⟩
 ·have hn:y = { x with w:=v,after:=atW v,line:=0 }:=by rw [<- HY.out];unfold Ld.next;simp [hl,hm]
  subst hn;go_wp2_with fail;refine (Xt _ _).mono ?_;rintro e _ ⟨rfl,rfl⟩;go_wp2_with fail;go_end0;exact Cs
theorem q0n (x:Ld) (hl:x.line=11) (hc:x.c.Ok) (b p q:Nat) (s:St) (w:World) (h:yd w b x) (hA:Rar w p q s) (hp:b≠p) (hq:b≠q) :
  Calls Tryz.prog 125 #[.pointer (some ⟨b,0,none⟩),.pointer (some ⟨p,0,none⟩)] w fun e w'=>e = .returned (.tuple #[])/\yd w' b (x.next (x.told s))/\Rar w' p q (s.swap (wrap64 (x.n+2)) x.w (or1 x.w))/\Fr [b,p,q] w w':=by
 generalize hy:x.next (x.told s)=y;have HY:=q9 hy;clear hy;obtain ⟨c0,c1,c2,c3,c4,c5,c6,c7,c8,c9,c10,c11,c12,c13⟩:=ze h;have z:=h.frozen;go_enter Tryz.func125,Tryz.ntmps125;go_wp2_with fail;have h0:=h;have A0:=hA;have D0:=Fr.refl [b,p,q] w;clear h hA;have hw0:=q9 (Eq.refl w);have A1:=A0;have h1:=h0;have D1:=D0;clear c0 c1 c2 c3 c4 c5 c6 c7 c8 c9 c10 c11 c12 c13 z;refine z7 Le [p,q] (fun w2 F2=>?_);refine epq [true,true,true,true,true,true,true,true,true,true,true,true,true,true,true,false] 1 (F2.mono) ?_;apply qg;refine ⟨fun wf Ff=>?_,?_⟩
 ·have hf:yd wf b x:=Ob.kept h1 Ff Lf;obtain ⟨-,-,-,-,-,-,-,-,-,c9,c10,-,-,-⟩:=ze hf;have k9:=qb c9;have k10:=qb c10;clear hf c9 c10;exact Ab
 refine eoq 15 (fun w3 F3=>?_);have E3:=F2.trans F3;have A3:=A1.kept E3;have h3:=Ob.up h1 E3;have G3:=zm D1 E3 Lc;clear F2 F3 A1 h1 D1 A0 h0 D0;go_wp2_with fail;refine (Ref.yn _ p q s _ _ _ A3).mono ?_;rintro e w4 ⟨rfl,A4,F4⟩;have E4:=(E3.mono (T:=[p,q]) Lc).trans F4;have h4:=h3.kept F4 Lf;have G4:=zm G3 F4 Lc;clear A3 h3 F4 G3 E3;go_wp2_with fail;refine ql ⟨E4,?_⟩;refine zr Le (fun w5 F5=>?_);have D5:=G4.then F5;have h5:yd w5 b x:=h4.up F5;have A5:=A4.kept F5;clear A4 h4 F5 G4 E4;obtain ⟨c0,c1,c2,c3,c4,c5,c6,c7,c8,c9,c10,c11,c12,c13⟩:=ze h5;have z:=h5.frozen;rw [show bits .or .i64 x.w 1=or1 x.w from rfl] at A5 ⊢;have hn:y = { x with line:=10 }:=by rw [<- HY.out];unfold Ld.next;simp [hl]
 subst hn;go_wp2_with fail;go_end0;exact Ah
theorem Je (x:Ld) (hl:x.line=8\/x.line=9\/x.line=10\/x.line=11) (hc:x.c.Ok) (b p q:Nat) (s:St) (w:World) (h:yd w b x) (hA:Rar w p q s) (hp:b≠p) (hq:b≠q) :
  Calls Tryz.prog 125 #[.pointer (some ⟨b,0,none⟩),.pointer (some ⟨p,0,none⟩)] w fun e w'=>e = .returned (.tuple #[])/\yd w' b (x.next (x.told s))/\Rar w' p q (x.act s)/\Fr [b,p,q] w w':=by
 rcases hl with l | l | l | l
 ·rw [show x.act s=s.swap (wrap64 (x.n+3)) 0 x.l by unfold Ld.act;simp [l]];exact q3n x l hc b p q s w h hA hp hq
 ·rw [show x.act s=s.load (wrap64 (x.n+3)) by unfold Ld.act;simp [l],show x.told s=qw s.l (wrap64 (x.n+3)) by unfold Ld.told;simp [l]];exact q3v x l hc b p q s w h hA hp hq
 ·rw [show x.act s=s.load (wrap64 (x.n+2)) by unfold Ld.act;simp [l],show x.told s=qw s.l (wrap64 (x.n+2)) by unfold Ld.told;simp [l]];exact q1e x l hc b p q s w h hA hp hq
 ·rw [show x.act s=s.swap (wrap64 (x.n+2)) x.w (or1 x.w) by unfold Ld.act;simp [l]];exact q0n x l hc b p q s w h hA hp hq
theorem q41 (x:Ld) (hl:x.line=8) (hc:x.c.Ok) (b p q:Nat) (s:St) (w:World) (h:yd w b x) (hA:Rar w p q s) (hp:b≠p) (hq:b≠q) :
  Calls Tryz.prog 103 #[.pointer (some ⟨b,0,none⟩),.pointer (some ⟨p,0,none⟩)] w fun e w'=>e = .returned (.bool (decide ((x.next (x.told s)).line=0)))/\yd w' b (x.next (x.told s))/\Rar w' p q (x.act s)/\Fr [b,p,q] w w':=by
 exact Ak
theorem q4r (x:Ld) (hl:x.line=9) (hc:x.c.Ok) (b p q:Nat) (s:St) (w:World) (h:yd w b x) (hA:Rar w p q s) (hp:b≠p) (hq:b≠q) :
  Calls Tryz.prog 103 #[.pointer (some ⟨b,0,none⟩),.pointer (some ⟨p,0,none⟩)] w fun e w'=>e = .returned (.bool (decide ((x.next (x.told s)).line=0)))/\yd w' b (x.next (x.told s))/\Rar w' p q (x.act s)/\Fr [b,p,q] w w':=by
 exact Ak
theorem q0o (x:Ld) (hl:x.line=10) (hc:x.c.Ok) (b p q:Nat) (s:St) (w:World) (h:yd w b x) (hA:Rar w p q s) (hp:b≠p) (hq:b≠q) :
  Calls Tryz.prog 103 #[.pointer (some ⟨b,0,none⟩),.pointer (some ⟨p,0,none⟩)] w fun e w'=>e = .returned (.bool (decide ((x.next (x.told s)).line=0)))/\yd w' b (x.next (x.told s))/\Rar w' p q (x.act s)/\Fr [b,p,q] w w':=by
 exact Ak
theorem q0t (x:Ld) (hl:x.line=11) (hc:x.c.Ok) (b p q:Nat) (s:St) (w:World) (h:yd w b x) (hA:Rar w p q s) (hp:b≠p) (hq:b≠q) :
  Calls Tryz.prog 103 #[.pointer (some ⟨b,0,none⟩),.pointer (some ⟨p,0,none⟩)] w fun e w'=>e = .returned (.bool (decide ((x.next (x.told s)).line=0)))/\yd w' b (x.next (x.told s))/\Rar w' p q (x.act s)/\Fr [b,p,q] w w':=by
 exact Ak
theorem q7d (x:Ld) (hl:x.line<1\/11<x.line) (b p:Nat) (w:World) (h:yd w b x) :
  Calls Tryz.prog 125 #[.pointer (some ⟨b,0,none⟩),.pointer (some ⟨p,0,none⟩)] w fun e w'=>e = .returned (.tuple #[])/\w=w':=by
 obtain ⟨-,-,-,-,-,-,-,c7,-,-,-,-,-,-⟩:=ze h;have l8:x.line≠8:=by omega
 have l9:x.line≠9:=by omega
 have l10:x.line≠10:=by omega
 have l11:x.line≠11:=by omega
 go_enter Tryz.func125,Tryz.ntmps125;go_wp2_with fail;go_end0;exact ⟨rfl,rfl⟩
theorem q44 (x:Ld) (hl:x.live=false) (hc:x.c.Ok) (b p q:Nat) (w:World) (h:yd w b x) :
  Calls Tryz.prog 103 #[.pointer (some ⟨b,0,none⟩),.pointer (some ⟨p,0,none⟩)] w fun e w'=>e = .returned (.bool (decide (x.line=0)))/\Fr [] w w':=by
 obtain ⟨c0,c1,c2,c3,c4,c5,c6,c7,c8,c9,c10,c11,c12,c13⟩:=ze h;unfold Ld.live at hl;have l1:x.line≠1:=by intro h;rw [h] at hl;simp at hl
 have l2:x.line≠2:=by intro h;rw [h] at hl;simp at hl
 have l3:x.line≠3:=by intro h;rw [h] at hl;simp at hl
 have l4:x.line≠4:=by intro h;rw [h] at hl;simp at hl
 have l5:x.line≠5:=by intro h;rw [h] at hl;simp at hl
 have l6:x.line≠6:=by intro h;rw [h] at hl;simp at hl
 have l7:x.line≠7:=by intro h;rw [h] at hl;simp at hl
 have l8:x.line≠8:=by intro h;rw [h] at hl;simp at hl
 have l9:x.line≠9:=by intro h;rw [h] at hl;simp at hl
 have l10:x.line≠10:=by intro h;rw [h] at hl;simp at hl
 have l11:x.line≠11:=by intro h;rw [h] at hl;simp at hl
 have hlt:x.line<1\/11<x.line:=by simp only [Bool.and_eq_false_iff,decide_eq_false_iff_not] at hl;omega
 clear hl;go_enter Tryz.func103,Tryz.ntmps103;go_wp2_with fail;refine (q7d x Lb b p w h).mono ?_;rintro e _ ⟨rfl,rfl⟩;exact Es
theorem q7h (x:Ld) (hc:x.c.Ok) (b p q:Nat) (s:St) (w:World) (h:yd w b x) (hA:Rar w p q s) (hp:b≠p) (hq:b≠q) :
  Calls Tryz.prog 103 #[.pointer (some ⟨b,0,none⟩),.pointer (some ⟨p,0,none⟩)] w fun e w'=>e = .returned (.bool (decide ((x.step s).1.line=0)))/\yd w' b (x.step s).1/\Rar w' p q (x.step s).2/\Fr [b,p,q] w w':=by
 unfold Ld.step;cases hl:x.live with
 | false=>exact (q44 x hl hc b p q w h).mono Lu
 | true =>
  unfold Ld.live at hl
  have hl':x.line=1\/x.line=2\/x.line=3\/x.line=4\/x.line=5\/x.line=6\/x.line=7\/x.line=8\/x.line=9\/x.line=10\/x.line=11:=Dj
  rw [qf rfl];rcases hl' with l | l | l | l | l | l | l | l | l | l | l
  ·rw [show x.act s=s.swap (wrap64 (x.chunk+3)) 0 x.chunk by unfold Ld.act;simp [l]];exact q48 x l hc b p q s w h hA hp hq
  ·rw [show x.act s=s.load (wrap64 (x.chunk+3)) by unfold Ld.act;simp [l],show x.told s=qw s.l (wrap64 (x.chunk+3)) by unfold Ld.told;simp [l]];exact q43 x l hc b p q s w h hA hp hq
  ·rw [show x.act s=s.load (wrap64 (x.l+2)) by unfold Ld.act;simp [l],show x.told s=qw s.l (wrap64 (x.l+2)) by unfold Ld.told;simp [l]];exact q2w x l hc b p q s w h hA hp hq
  ·rw [show x.act s=s.swap (wrap64 (x.l+2)) x.w (or1 x.w) by unfold Ld.act;simp [l]];exact q4p x l hc b p q s w h hA hp hq
  ·rw [show x.act s=s.load (wrap64 (x.l+4)) by unfold Ld.act;simp [l],show x.told s=qw s.l (wrap64 (x.l+4)) by unfold Ld.told;simp [l]];exact q4s x l hc b p q s w h hA hp hq
  ·rw [show x.act s=s.swap (wrap64 (x.l+4)) 0 x.who by unfold Ld.act;simp [l]];exact q46 x l hc b p q s w h hA hp hq
  ·rw [show x.act s=s.load (wrap64 (x.l+4)) by unfold Ld.act;simp [l],show x.told s=qw s.l (wrap64 (x.l+4)) by unfold Ld.told;simp [l]];exact q3p x l hc b p q s w h hA hp hq
  ·exact q41 x l hc b p q s w h hA hp hq
  ·exact q4r x l hc b p q s w h hA hp hq
  ·exact q0o x l hc b p q s w h hA hp hq
  ·exact q0t x l hc b p q s w h hA hp hq
end Go.Proofs.YtleclbldlladmaaGreat.Mx
