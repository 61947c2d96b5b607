/- Texts that this proof leans on, one behind the other: Cc1. -/
import Derived.Test.YtmdplidjkkjmmaaDoorQaa
import Derived.Test.YtmdplidjkkjmmaaDoorQab
import Derived.Test.YtmdplidjkkjmmaaDoorQac
import Derived.Deep.RegionHeld3
import Derived.RegionTactic
set_option linter.unusedVariables false
set_option linter.unusedSimpArgs false
set_option maxRecDepth 100000
set_option maxHeartbeats 12800000
namespace Go.Proofs.YtmdplidjkkjmmaaDoor.Cc
open Go.RowKit Go.Proofs.YtmdplidjkkjmmaaDoor.Ar Go.Proofs.YtmdplidjkkjmmaaDoor.Mx
theorem stateQ_any (a i:Int) (w:World):Calls Tryd.prog 12 #[.int .i64 a,.int .i64 i] w fun e w'=>e = .returned (.int .i64 (stAt a i))∧w=w':=by
 go_enter Tryd.func12,Tryd.ntmps12
 go_wp2
 go_ret
 exact ret_i (by unfold stAt;first | rw [w64w] | (simp only [w64l,w64r,w64i,w64w]))
structure Cx where
 ch:Int
 ky:Int
 dt:Int
 rm:Int
 ln:Int
 f0:Int
 f1:Int
 f2:Int
 f3:Int
 f4:Int
 f5:Int
 f6:Int
 f7:Int
def Cx.cells (y:Cx):Array Value:=#[.int .i64 y.ch,.int .i64 y.ky,.int .i64 y.dt,.int .i64 y.rm,.int .i64 y.ln,.int .i64 y.f0,.int .i64 y.f1,.int .i64 y.f2,.int .i64 y.f3,.int .i64 y.f4,.int .i64 y.f5,.int .i64 y.f6,.int .i64 y.f7]
def CxAt (w:World) (b:Nat) (T:TypeId) (pre post:Array Value) (y:Cx):Prop:=Pb w b T pre post y.cells
def Cx.sa (y:Cx):Int:=stAt y.ch y.f1
def Cx.plc (y:Cx):Int:=if y.f1<0 then -1 else if y.rm≤y.f1 then -1 else y.f1
def Cx.act (y:Cx) (s:St):St:=if y.ln=0 then s.load (wrap64 (y.ch+6)) else if y.ln=1 then s.add (wrap64 (y.ch+1)) 1 else if y.ln=2 then s.store (wrap64 (y.sa+1)) y.ky else if y.ln=3 then s.store (wrap64 (y.sa+2)) y.dt else if y.ln=4 then s.swap y.sa 0 1 else if y.ln=5 then s.load 1 else if y.ln=6 then s.swap y.sa 1 (stateW y.f5) else s.load y.sa
def Cx.put (y:Cx) (s:St):Cx:=if y.ln=1 then { y with f1:=peek s.l (wrap64 (y.ch+1)) } else if y.ln=5 then { y with f5:=peek s.l 1 } else if y.ln=7 then { y with f7:=peek s.l y.sa } else y
def Cx.goes (y:Cx) (s:St):Bool:=if y.ln=0 then decide (peek s.l (wrap64 (y.ch+6))=0) else if y.ln=1 then decide ((y.put s).plc ≠ -1) else if y.ln=4 then s.can y.sa 0 else true
def Cx.nx (y:Cx) (s:St):Int:=if y.goes s=true then y.ln+1 else 8
def Cx.step (y:Cx) (s:St):Cx:={ y.put s with ln:=y.nx s }
section
variable {w:World} {b o p q:Nat} {T:TypeId} {pre post:Array Value} {y:Cx} {s:St}
theorem cx_cells (h:CxAt w b T pre post y) (ho:pre.size=o):w.cell? ⟨b,o,none⟩=some (.int .i64 y.ch)∧w.cell? ⟨b,o+1,none⟩=some (.int .i64 y.ky)∧w.cell? ⟨b,o+2,none⟩=some (.int .i64 y.dt)∧w.cell? ⟨b,o+3,none⟩=some (.int .i64 y.rm)∧w.cell? ⟨b,o+4,none⟩=some (.int .i64 y.ln)∧w.cell? ⟨b,o+5+1,none⟩=some (.int .i64 y.f1)∧w.cell? ⟨b,o+5+5,none⟩=some (.int .i64 y.f5)∧w.cell? ⟨b,o+5+7,none⟩=some (.int .i64 y.f7) :=
 ⟨h.cell (i:=0) ho rfl,h.cell (i:=1) ho rfl,h.cell (i:=2) ho rfl,h.cell (i:=3) ho rfl,h.cell (i:=4) ho rfl,h.cell (i:=6) ho rfl,h.cell (i:=10) ho rfl,h.cell (i:=12) ho rfl⟩
theorem plc_any (h:CxAt w b T pre post y) (ho:pre.size=o):Calls Tryd.prog 17 #[.pointer (some ⟨b,o,none⟩)] w fun e w'=>e = .returned (.int .i64 y.plc)∧Fr [] w w':=by
 obtain ⟨-,-,-,c3,-,c5,-⟩:=cx_cells h ho
 clear h
 unfold Cx.plc
 by_cases e1:y.f1<0
 ·have g1:decide (y.f1<0)=true:=by simpa using e1
  rw [if_pos e1]
  go_enter Tryd.func17,Tryd.ntmps17
  go_wp2_with fail
  go_ret
  exact ⟨rfl,Fr.refl _ _⟩
 ·have g1:decide (y.f1<0)=false:=by simpa using e1
  rw [if_neg e1]
  by_cases e2:y.rm≤y.f1
  ·have g2:decide (y.rm≤y.f1)=true:=by simpa using e2
   rw [if_pos e2]
   go_enter Tryd.func17,Tryd.ntmps17
   go_wp2_with fail
   go_ret
   exact ⟨rfl,Fr.refl _ _⟩
  ·have g2:decide (y.rm≤y.f1)=false:=by simpa using e2
   rw [if_neg e2]
   go_enter Tryd.func17,Tryd.ntmps17
   go_wp2_with fail
   go_ret
   exact ⟨rfl,Fr.refl _ _⟩
def Cx.behL (y:Cx) (g:Bool):Int:=if g=true then wrap64 (y.ln+1) else 8
theorem beh_any {g:Bool} (h:CxAt w b T pre post y) (ho:pre.size=o):Calls Tryd.prog 29 #[.pointer (some ⟨b,o,none⟩),.bool g] w fun e w'=>e = .returned (.int .i64 (y.behL g))∧Fr [] w w':=by
 obtain ⟨-,-,-,-,c4,-⟩:=cx_cells h ho
 clear h
 unfold Cx.behL
 cases g
 ·rw [if_neg (by decide)]
  go_enter Tryd.func29,Tryd.ntmps29
  go_wp2_with fail
  go_ret
  exact ⟨rfl,Fr.refl _ _⟩
 ·rw [if_pos rfl]
  go_enter Tryd.func29,Tryd.ntmps29
  go_wp2_with fail
  go_ret
  exact ⟨rfl,Fr.refl _ _⟩
def PostA (w:World) (b p q:Nat) (T:TypeId) (pre post:Array Value) (y:Cx) (s:St) (e:Ending) (w':World):Prop:=e = .returned (.int .i64 (y.nx s))∧CxAt w' b T pre post (y.put s)∧Ar w' p q (y.act s)∧Fr [b,p,q] w w'
theorem acc0 (hl:y.ln=0) (t:Word.Tab w) (h:CxAt w b T pre post y) (ho:pre.size=o) (hA:Ar w p q s) (hne:b≠p∧b≠q) (hg:0≠p∧0≠q∧0≠b):Calls Tryd.prog 23 #[.pointer (some ⟨b,o,none⟩),.pointer (some ⟨p,0,none⟩)] w (PostA w b p q T pre post y s):=by
 unfold PostA
 have ea:y.act s=s.load (wrap64 (y.ch+6)):=by unfold Cx.act;simp [hl]
 have ep:y.put s=y:=by unfold Cx.put;simp [hl]
 have en:y.nx s=if peek s.l (wrap64 (y.ch+6))=0 then 1 else 8:=by unfold Cx.nx Cx.goes;simp [hl,ep]
 rw [ea,ep]
 generalize hnx:y.nx s=nx at *
 have HX:=Lib.hid en
 clear ea ep en hnx
 obtain ⟨c0,c1,c2,c3,c4,c5,c6,c7⟩:=cx_cells h ho
 have HH:=Lib.hid (And.intro h (And.intro hl ho))
 have HA:=Lib.hid hA
 have HT:=Lib.hid (And.intro t hg)
 have HNE:=Lib.hid hne
 have k0:=In.cell c0
 have k5:=In.cell c5
 clear hl h hA t hg hne c0 c1 c2 c3 c4 c5 c6 c7 ho
 go_enter Tryd.func23,Tryd.ntmps23
 go_wp2_with fail
 refine wiq ?_
 repeat (go_big_quiet_step ((go_at_call 12;exact Calls.in_same (stateQ_any _ _ _))))
 refine wpQuiet_nil ?_
 intro w1 F1
 clear k0 k5
 rw [show stAt y.ch y.f1=y.sa from rfl]
 have h1:CxAt w1 b T pre post y:=Pb.up HH.out.1 F1
 have A1:=HA.out.kept F1
 have HF:=Lib.hid F1
 have z1:=h1.frozen
 obtain ⟨c0,c1,c2,c3,c4,c5,c6,c7⟩:=cx_cells h1 HH.out.2.2
 rw [HH.out.2.1] at c4
 have HH1:=Lib.hid h1
 clear h1
 go_wp2_with fail
 refine (Ar.load_any _ p q s _ A1).mono ?_;rintro e w4 ⟨rfl,A4,F4⟩
 have h4:CxAt w4 b T pre post y:=Pb.kept HH1.out F4 (by simp;exact HNE.out)
 have D4:Fr [b,p,q] w w4:=(HF.out.mono (by simp)).trans (F4.mono)
 obtain ⟨c0,c1,c2,c3,c4,c5,c6,c7⟩:=cx_cells h4 HH.out.2.2
 rw [HH.out.2.1] at c4
 have z4:=h4.frozen
 have HP:=Lib.hid (And.intro h4 (And.intro A4 D4))
 clear h4 A4 D4 F4 A1 z1 z4
 clear c0 c1 c2 c3 c4 c5 c6 c7
 go_wp2_with fail
 refine (beh_any HP.out.1 HH.out.2.2).mono ?_;rintro e w7 ⟨rfl,F7⟩
 generalize hbv:y.behL _=bv at *
 have HB:=Lib.hid hbv
 clear hbv
 have hfin:bv=nx:=by
  rw [HX.out,← HB.out]
  unfold Cx.behL
  rw [HH.out.2.1]
  first
   | rw [show wrap64 ((0:Int)+1)=1 from w64 (a:=0+1) (by decide) (by decide)]
   | rw [show wrap64 ((4:Int)+1)=5 from w64 (a:=4+1) (by decide) (by decide)]
  try simp only [beq_iff_eq]
 subst hfin
 go_wp2
 go_ret
 exact ⟨rfl,Pb.up HP.out.1 F7,HP.out.2.1.kept F7 (by simp) (by simp),HP.out.2.2.then F7⟩
theorem acc1 (hl:y.ln=1) (t:Word.Tab w) (h:CxAt w b T pre post y) (ho:pre.size=o) (hA:Ar w p q s) (hne:b≠p∧b≠q) (hg:0≠p∧0≠q∧0≠b):Calls Tryd.prog 23 #[.pointer (some ⟨b,o,none⟩),.pointer (some ⟨p,0,none⟩)] w (PostA w b p q T pre post y s):=by
 unfold PostA
 have ea:y.act s=s.add (wrap64 (y.ch+1)) 1:=by unfold Cx.act;simp [hl]
 have ep:y.put s = { y with f1:=peek s.l (wrap64 (y.ch+1)) }:=by unfold Cx.put;simp [hl]
 have en:y.nx s=if ({ y with f1:=peek s.l (wrap64 (y.ch+1)) }:Cx).plc ≠ -1 then 2 else 8:=by unfold Cx.nx Cx.goes;simp [hl,ep]
 rw [ea,ep]
 generalize hnx:y.nx s=nx at *
 have HX:=Lib.hid en
 clear ea ep en hnx
 obtain ⟨c0,c1,c2,c3,c4,c5,c6,c7⟩:=cx_cells h ho
 have HH:=Lib.hid (And.intro h (And.intro hl ho))
 have HA:=Lib.hid hA
 have HT:=Lib.hid (And.intro t hg)
 have HNE:=Lib.hid hne
 have k0:=In.cell c0
 have k5:=In.cell c5
 clear hl h hA t hg hne c0 c1 c2 c3 c4 c5 c6 c7 ho
 go_enter Tryd.func23,Tryd.ntmps23
 go_wp2_with fail
 refine wiq ?_
 repeat (go_big_quiet_step ((go_at_call 12;exact Calls.in_same (stateQ_any _ _ _))))
 refine wpQuiet_nil ?_
 intro w1 F1
 clear k0 k5
 rw [show stAt y.ch y.f1=y.sa from rfl]
 have h1:CxAt w1 b T pre post y:=Pb.up HH.out.1 F1
 have A1:=HA.out.kept F1
 have HF:=Lib.hid F1
 have z1:=h1.frozen
 obtain ⟨c0,c1,c2,c3,c4,c5,c6,c7⟩:=cx_cells h1 HH.out.2.2
 rw [HH.out.2.1] at c4
 have HH1:=Lib.hid h1
 clear h1
 generalize hv:peek s.l (wrap64 (y.ch+1))=v at *
 have HV:=Lib.hid hv
 clear hv
 go_wp2_with fail
 refine wp_region_free (by kernel_rfl) ?_
 refine any_envL [p,q] w1 #[true,true,true,true,true,true,true,true,true,true,true,false] 11 1 rfl ?_
 refine envT_pass [true,true,true,true,true,true,true,false,true,true,false,false] 2 (n:=110) (listed':=#[true,true,true,true,true,true,true,false,true,true,false,false]) rfl (by kernel_rfl) (by kernel_rfl) (by kernel_rfl) (by kernel_rfl) (by kernel_rfl) rfl (by kernel_rfl) (fun _ _ d _ _ h=>by cases d <;> exact h) ((Fr.refl _ w1).drew) ?_
 apply Exists.intro
 refine ⟨fun wf Ff=>?_,?_⟩
 ·have k0:=In.cell (Ff.cell c0 (by simp;exact HNE.out))
  simp only [sel]
  repeat (go_big_quiet_step (fail))
  exact wpQuiet_nil rfl
 refine loq 7 (fun w3 F3=>?_)
 have D3:=(Fr.refl [] w1).drew.trans F3
 have A3:=A1.kept D3
 clear F3 A1 z1 c0 c1 c2 c3 c4 c5 c6 c7
 go_wp2_with fail
 refine (Ar.add_any _ p q s _ _ A3).mono ?_;rintro e w4 ⟨rfl,A4,F4⟩
 rw [HV.out]
 go_wp2_with fail
 refine nx_normal ⟨(D3.mono).trans F4,?_⟩
 refine loq 10 (fun w4' F4'=>?_)
 replace A4:=A4.kept F4' (by simp) (by simp)
 replace F4:=F4.then F4'
 clear F4'
 go_wp2_with fail
 refine nx_normal ⟨(D3.mono).trans F4,?_⟩
 refine envL_tail (k:=11) rfl (by kernel_rfl) (fun w5 F5=>?_)
 replace F4:Fr [p,q] w1 w5:=((D3.mono).trans F4).then F5
 replace A4:=A4.kept F5
 clear D3 F5 A3
 have h4:CxAt w5 b T pre post y:=Pb.kept HH1.out F4 (by simp;exact HNE.out)
 have D4:Fr [b,p,q] w w5:=(HF.out.mono (by simp)).trans (F4.mono)
 clear F4
 have HP:=Lib.hid (And.intro h4 (And.intro A4 D4))
 obtain ⟨c0,c1,c2,c3,c4,c5,c6,c7⟩:=cx_cells h4 HH.out.2.2
 rw [HH.out.2.1] at c4
 have z4:=h4.frozen
 clear h4 A4 D4
 go_wp2_with fail
 have h6:CxAt (w5.setCell ⟨b,o+5+1,none⟩ (.int .i64 v)) b T pre post { y with f1:=v }:=Pb.set HP.out.1 HH.out.2.2 (i:=6) (by show 6<13;omega) (.int .i64 v)
 have A6:Ar (w5.setCell ⟨b,o+5+1,none⟩ (.int .i64 v)) p q (s.add (wrap64 (y.ch+1)) 1):=HP.out.2.1.kept (Fr.setCell (S:=[b]) (b:=b) _ (by simp)) (by simp;exact HNE.out.1.symm) (by simp;exact HNE.out.2.symm)
 have D6:=HP.out.2.2.setCell' (b:=b) (i:=o+5+1) (.int .i64 v) (by simp)
 generalize (w5.setCell ⟨b,o+5+1,none⟩ (.int .i64 v))=w6 at *
 clear c0 c1 c2 c3 c4 c5 c6 c7 z4
 refine (plc_any h6 HH.out.2.2).mono ?_;rintro e w8 ⟨rfl,F8⟩
 have HQ:=Lib.hid (And.intro (show CxAt w8 b T pre post { y with f1:=v } from Pb.up h6 F8) (And.intro (A6.kept F8) (D6.then F8)))
 clear h6 A6 D6 F8
 generalize ({ y with f1:=v }:Cx).plc=pl at *
 go_wp2_with fail
 refine (beh_any HQ.out.1 HH.out.2.2).mono ?_;rintro e w7 ⟨rfl,F7⟩
 generalize hbv:({ y with f1:=v }:Cx).behL _=bv at *
 have HB:=Lib.hid hbv
 clear hbv
 have hfin:bv=nx:=by
  rw [HX.out,← HB.out]
  unfold Cx.behL
  rw [show ({ y with f1:=v }:Cx).ln=1 from HH.out.2.1]
  by_cases e:pl = -1
  ·rw [if_neg (by simp [e]),if_neg (by simp [e])]
  ·rw [if_pos (by simp [e]),if_pos (by simp [e])];exact w64 (a:=1+1) (by decide) (by decide)
 subst hfin
 go_wp2
 go_ret
 exact ⟨rfl,by rw [HV.out];exact Pb.up HQ.out.1 F7,HQ.out.2.1.kept F7 (by simp) (by simp),HQ.out.2.2.then F7⟩
theorem acc2 (hl:y.ln=2) (t:Word.Tab w) (h:CxAt w b T pre post y) (ho:pre.size=o) (hA:Ar w p q s) (hne:b≠p∧b≠q) (hg:0≠p∧0≠q∧0≠b):Calls Tryd.prog 23 #[.pointer (some ⟨b,o,none⟩),.pointer (some ⟨p,0,none⟩)] w (PostA w b p q T pre post y s):=by
 unfold PostA
 have ea:y.act s=s.store (wrap64 (y.sa+1)) y.ky:=by unfold Cx.act;simp [hl]
 have ep:y.put s=y:=by unfold Cx.put;simp [hl]
 have en:y.nx s=3:=by unfold Cx.nx Cx.goes;simp [hl,ep]
 rw [ea,ep]
 generalize hnx:y.nx s=nx at *
 have HX:=Lib.hid en
 clear ea ep en hnx
 obtain ⟨c0,c1,c2,c3,c4,c5,c6,c7⟩:=cx_cells h ho
 have HH:=Lib.hid (And.intro h (And.intro hl ho))
 have HA:=Lib.hid hA
 have HT:=Lib.hid (And.intro t hg)
 have HNE:=Lib.hid hne
 have k0:=In.cell c0
 have k5:=In.cell c5
 clear hl h hA t hg hne c0 c1 c2 c3 c4 c5 c6 c7 ho
 go_enter Tryd.func23,Tryd.ntmps23
 go_wp2_with fail
 refine wiq ?_
 repeat (go_big_quiet_step ((go_at_call 12;exact Calls.in_same (stateQ_any _ _ _))))
 refine wpQuiet_nil ?_
 intro w1 F1
 clear k0 k5
 rw [show stAt y.ch y.f1=y.sa from rfl]
 have h1:CxAt w1 b T pre post y:=Pb.up HH.out.1 F1
 have A1:=HA.out.kept F1
 have HF:=Lib.hid F1
 have z1:=h1.frozen
 obtain ⟨c0,c1,c2,c3,c4,c5,c6,c7⟩:=cx_cells h1 HH.out.2.2
 rw [HH.out.2.1] at c4
 have HH1:=Lib.hid h1
 clear h1
 go_wp2_with fail
 refine (Ar.store_any _ p q s _ _ A1).mono ?_;rintro e w4 ⟨rfl,A4,F4⟩
 have h4:CxAt w4 b T pre post y:=Pb.kept HH1.out F4 (by simp;exact HNE.out)
 have D4:Fr [b,p,q] w w4:=(HF.out.mono (by simp)).trans (F4.mono)
 obtain ⟨c0,c1,c2,c3,c4,c5,c6,c7⟩:=cx_cells h4 HH.out.2.2
 rw [HH.out.2.1] at c4
 have z4:=h4.frozen
 have HP:=Lib.hid (And.intro h4 (And.intro A4 D4))
 clear h4 A4 D4 F4 A1
 go_wp2
 go_ret
 exact ⟨by rw [HX.out];rfl,HP.out.1,HP.out.2.1,HP.out.2.2⟩
theorem acc3 (hl:y.ln=3) (t:Word.Tab w) (h:CxAt w b T pre post y) (ho:pre.size=o) (hA:Ar w p q s) (hne:b≠p∧b≠q) (hg:0≠p∧0≠q∧0≠b):Calls Tryd.prog 23 #[.pointer (some ⟨b,o,none⟩),.pointer (some ⟨p,0,none⟩)] w (PostA w b p q T pre post y s):=by
 unfold PostA
 have ea:y.act s=s.store (wrap64 (y.sa+2)) y.dt:=by unfold Cx.act;simp [hl]
 have ep:y.put s=y:=by unfold Cx.put;simp [hl]
 have en:y.nx s=4:=by unfold Cx.nx Cx.goes;simp [hl,ep]
 rw [ea,ep]
 generalize hnx:y.nx s=nx at *
 have HX:=Lib.hid en
 clear ea ep en hnx
 obtain ⟨c0,c1,c2,c3,c4,c5,c6,c7⟩:=cx_cells h ho
 have HH:=Lib.hid (And.intro h (And.intro hl ho))
 have HA:=Lib.hid hA
 have HT:=Lib.hid (And.intro t hg)
 have HNE:=Lib.hid hne
 have k0:=In.cell c0
 have k5:=In.cell c5
 clear hl h hA t hg hne c0 c1 c2 c3 c4 c5 c6 c7 ho
 go_enter Tryd.func23,Tryd.ntmps23
 go_wp2_with fail
 refine wiq ?_
 repeat (go_big_quiet_step ((go_at_call 12;exact Calls.in_same (stateQ_any _ _ _))))
 refine wpQuiet_nil ?_
 intro w1 F1
 clear k0 k5
 rw [show stAt y.ch y.f1=y.sa from rfl]
 have h1:CxAt w1 b T pre post y:=Pb.up HH.out.1 F1
 have A1:=HA.out.kept F1
 have HF:=Lib.hid F1
 have z1:=h1.frozen
 obtain ⟨c0,c1,c2,c3,c4,c5,c6,c7⟩:=cx_cells h1 HH.out.2.2
 rw [HH.out.2.1] at c4
 have HH1:=Lib.hid h1
 clear h1
 go_wp2_with fail
 refine (Ar.store_any _ p q s _ _ A1).mono ?_;rintro e w4 ⟨rfl,A4,F4⟩
 have h4:CxAt w4 b T pre post y:=Pb.kept HH1.out F4 (by simp;exact HNE.out)
 have D4:Fr [b,p,q] w w4:=(HF.out.mono (by simp)).trans (F4.mono)
 obtain ⟨c0,c1,c2,c3,c4,c5,c6,c7⟩:=cx_cells h4 HH.out.2.2
 rw [HH.out.2.1] at c4
 have z4:=h4.frozen
 have HP:=Lib.hid (And.intro h4 (And.intro A4 D4))
 clear h4 A4 D4 F4 A1
 go_wp2
 go_ret
 exact ⟨by rw [HX.out];rfl,HP.out.1,HP.out.2.1,HP.out.2.2⟩
theorem acc4 (hl:y.ln=4) (t:Word.Tab w) (h:CxAt w b T pre post y) (ho:pre.size=o) (hA:Ar w p q s) (hne:b≠p∧b≠q) (hg:0≠p∧0≠q∧0≠b):Calls Tryd.prog 23 #[.pointer (some ⟨b,o,none⟩),.pointer (some ⟨p,0,none⟩)] w (PostA w b p q T pre post y s):=by
 unfold PostA
 have ea:y.act s=s.swap y.sa 0 1:=by unfold Cx.act;simp [hl]
 have ep:y.put s=y:=by unfold Cx.put;simp [hl]
 have en:y.nx s=if s.can y.sa 0=true then 5 else 8:=by unfold Cx.nx Cx.goes;simp [hl,ep]
 rw [ea,ep]
 generalize hnx:y.nx s=nx at *
 have HX:=Lib.hid en
 clear ea ep en hnx
 obtain ⟨c0,c1,c2,c3,c4,c5,c6,c7⟩:=cx_cells h ho
 have HH:=Lib.hid (And.intro h (And.intro hl ho))
 have HA:=Lib.hid hA
 have HT:=Lib.hid (And.intro t hg)
 have HNE:=Lib.hid hne
 have k0:=In.cell c0
 have k5:=In.cell c5
 clear hl h hA t hg hne c0 c1 c2 c3 c4 c5 c6 c7 ho
 go_enter Tryd.func23,Tryd.ntmps23
 go_wp2_with fail
 refine wiq ?_
 repeat (go_big_quiet_step ((go_at_call 12;exact Calls.in_same (stateQ_any _ _ _))))
 refine wpQuiet_nil ?_
 intro w1 F1
 clear k0 k5
 rw [show stAt y.ch y.f1=y.sa from rfl]
 have h1:CxAt w1 b T pre post y:=Pb.up HH.out.1 F1
 have A1:=HA.out.kept F1
 have HF:=Lib.hid F1
 have z1:=h1.frozen
 obtain ⟨c0,c1,c2,c3,c4,c5,c6,c7⟩:=cx_cells h1 HH.out.2.2
 rw [HH.out.2.1] at c4
 have HH1:=Lib.hid h1
 clear h1
 go_wp2_with fail
 refine (Ar.swap_any _ p q s _ _ _ A1).mono ?_;rintro e w4 ⟨rfl,A4,F4⟩
 have h4:CxAt w4 b T pre post y:=Pb.kept HH1.out F4 (by simp;exact HNE.out)
 have D4:Fr [b,p,q] w w4:=(HF.out.mono (by simp)).trans (F4.mono)
 obtain ⟨c0,c1,c2,c3,c4,c5,c6,c7⟩:=cx_cells h4 HH.out.2.2
 rw [HH.out.2.1] at c4
 have z4:=h4.frozen
 have HP:=Lib.hid (And.intro h4 (And.intro A4 D4))
 clear h4 A4 D4 F4 A1 z1 z4
 clear c0 c1 c2 c3 c4 c5 c6 c7
 go_wp2_with fail
 refine (beh_any HP.out.1 HH.out.2.2).mono ?_;rintro e w7 ⟨rfl,F7⟩
 generalize hbv:y.behL _=bv at *
 have HB:=Lib.hid hbv
 clear hbv
 have hfin:bv=nx:=by
  rw [HX.out,← HB.out]
  unfold Cx.behL
  rw [HH.out.2.1]
  first
   | rw [show wrap64 ((0:Int)+1)=1 from w64 (a:=0+1) (by decide) (by decide)]
   | rw [show wrap64 ((4:Int)+1)=5 from w64 (a:=4+1) (by decide) (by decide)]
  try simp only [beq_iff_eq]
 subst hfin
 go_wp2
 go_ret
 exact ⟨rfl,Pb.up HP.out.1 F7,HP.out.2.1.kept F7 (by simp) (by simp),HP.out.2.2.then F7⟩
theorem acc5 (hl:y.ln=5) (t:Word.Tab w) (h:CxAt w b T pre post y) (ho:pre.size=o) (hA:Ar w p q s) (hne:b≠p∧b≠q) (hg:0≠p∧0≠q∧0≠b):Calls Tryd.prog 23 #[.pointer (some ⟨b,o,none⟩),.pointer (some ⟨p,0,none⟩)] w (PostA w b p q T pre post y s):=by
 unfold PostA
 have ea:y.act s=s.load 1:=by unfold Cx.act;simp [hl]
 have ep:y.put s = { y with f5:=peek s.l 1 }:=by unfold Cx.put;simp [hl]
 have en:y.nx s=6:=by unfold Cx.nx Cx.goes;simp [hl,ep]
 rw [ea,ep]
 generalize hnx:y.nx s=nx at *
 have HX:=Lib.hid en
 clear ea ep en hnx
 obtain ⟨c0,c1,c2,c3,c4,c5,c6,c7⟩:=cx_cells h ho
 have HH:=Lib.hid (And.intro h (And.intro hl ho))
 have HA:=Lib.hid hA
 have HT:=Lib.hid (And.intro t hg)
 have HNE:=Lib.hid hne
 have k0:=In.cell c0
 have k5:=In.cell c5
 clear hl h hA t hg hne c0 c1 c2 c3 c4 c5 c6 c7 ho
 go_enter Tryd.func23,Tryd.ntmps23
 go_wp2_with fail
 refine wiq ?_
 repeat (go_big_quiet_step ((go_at_call 12;exact Calls.in_same (stateQ_any _ _ _))))
 refine wpQuiet_nil ?_
 intro w1 F1
 clear k0 k5
 rw [show stAt y.ch y.f1=y.sa from rfl]
 have h1:CxAt w1 b T pre post y:=Pb.up HH.out.1 F1
 have A1:=HA.out.kept F1
 have HF:=Lib.hid F1
 have z1:=h1.frozen
 obtain ⟨c0,c1,c2,c3,c4,c5,c6,c7⟩:=cx_cells h1 HH.out.2.2
 rw [HH.out.2.1] at c4
 have HH1:=Lib.hid h1
 clear h1
 generalize hv:peek s.l 1=v at *
 have HV:=Lib.hid hv
 clear hv
 go_wp2_with fail
 refine wp_region_free (by kernel_rfl) ?_
 refine any_envL [p,q] w1 #[true,true,true,true,true,true,false] 6 1 rfl ?_
 refine envT_pass [true,true,false,true,true,false,false] 2 (n:=110) (listed':=#[true,true,false,true,true,false,false]) rfl (by kernel_rfl) (by kernel_rfl) (by kernel_rfl) (by kernel_rfl) (by kernel_rfl) rfl (by kernel_rfl) (fun _ _ d _ _ h=>by cases d <;> exact h) ((Fr.refl _ w1).drew) ?_
 apply Exists.intro
 refine ⟨fun wf Ff=>?_,?_⟩
 ·simp only [sel]
  repeat (go_big_quiet_step (fail))
  exact wpQuiet_nil rfl
 refine loq 2 (fun w3 F3=>?_)
 have D3:=(Fr.refl [] w1).drew.trans F3
 have A3:=A1.kept D3
 clear F3 A1 z1 c0 c1 c2 c3 c4 c5 c6 c7
 go_wp2_with fail
 refine (Ar.load_any _ p q s _ A3).mono ?_;rintro e w4 ⟨rfl,A4,F4⟩
 rw [HV.out]
 go_wp2_with fail
 refine nx_normal ⟨(D3.mono).trans F4,?_⟩
 refine loq 5 (fun w4' F4'=>?_)
 replace A4:=A4.kept F4' (by simp) (by simp)
 replace F4:=F4.then F4'
 clear F4'
 go_wp2_with fail
 refine nx_normal ⟨(D3.mono).trans F4,?_⟩
 refine envL_tail (k:=6) rfl (by kernel_rfl) (fun w5 F5=>?_)
 replace F4:Fr [p,q] w1 w5:=((D3.mono).trans F4).then F5
 replace A4:=A4.kept F5
 clear D3 F5 A3
 have h4:CxAt w5 b T pre post y:=Pb.kept HH1.out F4 (by simp;exact HNE.out)
 have D4:Fr [b,p,q] w w5:=(HF.out.mono (by simp)).trans (F4.mono)
 clear F4
 have HP:=Lib.hid (And.intro h4 (And.intro A4 D4))
 obtain ⟨c0,c1,c2,c3,c4,c5,c6,c7⟩:=cx_cells h4 HH.out.2.2
 rw [HH.out.2.1] at c4
 have z4:=h4.frozen
 clear h4 A4 D4
 go_wp2_with fail
 go_ret
 refine ⟨by rw [HX.out];rfl,?_,?_,?_⟩
 ·rw [HV.out];exact Pb.set HP.out.1 HH.out.2.2 (i:=10) (by show 10<13;omega) (.int .i64 v)
 ·exact HP.out.2.1.kept (Fr.setCell (S:=[b]) (b:=b) _ (by simp)) (by simp;exact HNE.out.1.symm) (by simp;exact HNE.out.2.symm)
 ·exact HP.out.2.2.setCell' (b:=b) _ (by simp)
theorem acc6 (hl:y.ln=6) (t:Word.Tab w) (h:CxAt w b T pre post y) (ho:pre.size=o) (hA:Ar w p q s) (hne:b≠p∧b≠q) (hg:0≠p∧0≠q∧0≠b):Calls Tryd.prog 23 #[.pointer (some ⟨b,o,none⟩),.pointer (some ⟨p,0,none⟩)] w (PostA w b p q T pre post y s):=by
 unfold PostA
 have ea:y.act s=s.swap y.sa 1 (stateW y.f5):=by unfold Cx.act;simp [hl]
 have ep:y.put s=y:=by unfold Cx.put;simp [hl]
 have en:y.nx s=7:=by unfold Cx.nx Cx.goes;simp [hl,ep]
 rw [ea,ep]
 generalize hnx:y.nx s=nx at *
 have HX:=Lib.hid en
 clear ea ep en hnx
 obtain ⟨c0,c1,c2,c3,c4,c5,c6,c7⟩:=cx_cells h ho
 have HH:=Lib.hid (And.intro h (And.intro hl ho))
 have HA:=Lib.hid hA
 have HT:=Lib.hid (And.intro t hg)
 have HNE:=Lib.hid hne
 have k0:=In.cell c0
 have k5:=In.cell c5
 clear hl h hA t hg hne c0 c1 c2 c3 c4 c5 c6 c7 ho
 go_enter Tryd.func23,Tryd.ntmps23
 go_wp2_with fail
 refine wiq ?_
 repeat (go_big_quiet_step ((go_at_call 12;exact Calls.in_same (stateQ_any _ _ _))))
 refine wpQuiet_nil ?_
 intro w1 F1
 clear k0 k5
 rw [show stAt y.ch y.f1=y.sa from rfl]
 have h1:CxAt w1 b T pre post y:=Pb.up HH.out.1 F1
 have A1:=HA.out.kept F1
 have HF:=Lib.hid F1
 have z1:=h1.frozen
 obtain ⟨c0,c1,c2,c3,c4,c5,c6,c7⟩:=cx_cells h1 HH.out.2.2
 rw [HH.out.2.1] at c4
 have HH1:=Lib.hid h1
 clear h1
 have tt:=Gq.tab_up HT.out.1 HF.out
 go_wp2_with fail
 refine (Gq.state9 y.f5 _ tt).mono ?_;rintro e w2 ⟨rfl,F2⟩
 have A2:=A1.kept F2
 clear A1 c0 c1 c2 c3 c4 c5 c6 c7 z1 tt
 go_wp2_with fail
 refine (Ar.swap_any _ p q s _ _ _ A2).mono ?_;rintro e w4 ⟨rfl,A4,F4⟩
 replace F4:Fr [p,q] w1 w4:=(F2.mono).trans F4
 clear F2 A2
 have h4:CxAt w4 b T pre post y:=Pb.kept HH1.out F4 (by simp;exact HNE.out)
 have D4:Fr [b,p,q] w w4:=(HF.out.mono (by simp)).trans (F4.mono)
 obtain ⟨c0,c1,c2,c3,c4,c5,c6,c7⟩:=cx_cells h4 HH.out.2.2
 rw [HH.out.2.1] at c4
 have z4:=h4.frozen
 have HP:=Lib.hid (And.intro h4 (And.intro A4 D4))
 clear h4 A4 D4 F4
 go_wp2
 go_ret
 exact ⟨by rw [HX.out];rfl,HP.out.1,HP.out.2.1,HP.out.2.2⟩
theorem acc7 (hl:y.ln=7) (t:Word.Tab w) (h:CxAt w b T pre post y) (ho:pre.size=o) (hA:Ar w p q s) (hne:b≠p∧b≠q) (hg:0≠p∧0≠q∧0≠b):Calls Tryd.prog 23 #[.pointer (some ⟨b,o,none⟩),.pointer (some ⟨p,0,none⟩)] w (PostA w b p q T pre post y s):=by
 unfold PostA
 have ea:y.act s=s.load y.sa:=by unfold Cx.act;simp [hl]
 have ep:y.put s = { y with f7:=peek s.l y.sa }:=by unfold Cx.put;simp [hl]
 have en:y.nx s=8:=by unfold Cx.nx Cx.goes;simp [hl,ep]
 rw [ea,ep]
 generalize hnx:y.nx s=nx at *
 have HX:=Lib.hid en
 clear ea ep en hnx
 obtain ⟨c0,c1,c2,c3,c4,c5,c6,c7⟩:=cx_cells h ho
 have HH:=Lib.hid (And.intro h (And.intro hl ho))
 have HA:=Lib.hid hA
 have HT:=Lib.hid (And.intro t hg)
 have HNE:=Lib.hid hne
 have k0:=In.cell c0
 have k5:=In.cell c5
 clear hl h hA t hg hne c0 c1 c2 c3 c4 c5 c6 c7 ho
 go_enter Tryd.func23,Tryd.ntmps23
 go_wp2_with fail
 refine wiq ?_
 repeat (go_big_quiet_step ((go_at_call 12;exact Calls.in_same (stateQ_any _ _ _))))
 refine wpQuiet_nil ?_
 intro w1 F1
 clear k0 k5
 rw [show stAt y.ch y.f1=y.sa from rfl]
 have h1:CxAt w1 b T pre post y:=Pb.up HH.out.1 F1
 have A1:=HA.out.kept F1
 have HF:=Lib.hid F1
 have z1:=h1.frozen
 obtain ⟨c0,c1,c2,c3,c4,c5,c6,c7⟩:=cx_cells h1 HH.out.2.2
 rw [HH.out.2.1] at c4
 have HH1:=Lib.hid h1
 clear h1
 generalize hv:peek s.l y.sa=v at *
 have HV:=Lib.hid hv
 clear hv
 go_wp2_with fail
 refine wp_region_free (by kernel_rfl) ?_
 refine any_envL [p,q] w1 #[true,true,true,true,true,true,true,false] 7 1 rfl ?_
 refine envT_pass [true,true,true,false,true,true,false,false] 2 (n:=110) (listed':=#[true,true,true,false,true,true,false,false]) rfl (by kernel_rfl) (by kernel_rfl) (by kernel_rfl) (by kernel_rfl) (by kernel_rfl) rfl (by kernel_rfl) (fun _ _ d _ _ h=>by cases d <;> exact h) ((Fr.refl _ w1).drew) ?_
 apply Exists.intro
 refine ⟨fun wf Ff=>?_,?_⟩
 ·simp only [sel]
  repeat (go_big_quiet_step (fail))
  exact wpQuiet_nil rfl
 refine loq 3 (fun w3 F3=>?_)
 have D3:=(Fr.refl [] w1).drew.trans F3
 have A3:=A1.kept D3
 clear F3 A1 z1 c0 c1 c2 c3 c4 c5 c6 c7
 go_wp2_with fail
 refine (Ar.load_any _ p q s _ A3).mono ?_;rintro e w4 ⟨rfl,A4,F4⟩
 rw [HV.out]
 go_wp2_with fail
 refine nx_normal ⟨(D3.mono).trans F4,?_⟩
 refine loq 6 (fun w4' F4'=>?_)
 replace A4:=A4.kept F4' (by simp) (by simp)
 replace F4:=F4.then F4'
 clear F4'
 go_wp2_with fail
 refine nx_normal ⟨(D3.mono).trans F4,?_⟩
 refine envL_tail (k:=7) rfl (by kernel_rfl) (fun w5 F5=>?_)
 replace F4:Fr [p,q] w1 w5:=((D3.mono).trans F4).then F5
 replace A4:=A4.kept F5
 clear D3 F5 A3
 have h4:CxAt w5 b T pre post y:=Pb.kept HH1.out F4 (by simp;exact HNE.out)
 have D4:Fr [b,p,q] w w5:=(HF.out.mono (by simp)).trans (F4.mono)
 clear F4
 have HP:=Lib.hid (And.intro h4 (And.intro A4 D4))
 obtain ⟨c0,c1,c2,c3,c4,c5,c6,c7⟩:=cx_cells h4 HH.out.2.2
 rw [HH.out.2.1] at c4
 have z4:=h4.frozen
 clear h4 A4 D4
 go_wp2_with fail
 go_ret
 refine ⟨by rw [HX.out];rfl,?_,?_,?_⟩
 ·rw [HV.out];exact Pb.set HP.out.1 HH.out.2.2 (i:=12) (by show 12<13;omega) (.int .i64 v)
 ·exact HP.out.2.1.kept (Fr.setCell (S:=[b]) (b:=b) _ (by simp)) (by simp;exact HNE.out.1.symm) (by simp;exact HNE.out.2.symm)
 ·exact HP.out.2.2.setCell' (b:=b) _ (by simp)
theorem acc_any (hl:0≤y.ln∧y.ln≤7) (t:Word.Tab w) (h:CxAt w b T pre post y) (ho:pre.size=o) (hA:Ar w p q s) (hne:b≠p∧b≠q) (hg:0≠p∧0≠q∧0≠b):Calls Tryd.prog 23 #[.pointer (some ⟨b,o,none⟩),.pointer (some ⟨p,0,none⟩)] w (PostA w b p q T pre post y s):=by
 rcases (by omega:y.ln=0∨y.ln=1∨y.ln=2∨y.ln=3∨y.ln=4∨y.ln=5∨y.ln=6∨y.ln=7) with e | e | e | e | e | e | e | e
 ·exact acc0 e t h ho hA hne hg
 ·exact acc1 e t h ho hA hne hg
 ·exact acc2 e t h ho hA hne hg
 ·exact acc3 e t h ho hA hne hg
 ·exact acc4 e t h ho hA hne hg
 ·exact acc5 e t h ho hA hne hg
 ·exact acc6 e t h ho hA hne hg
 ·exact acc7 e t h ho hA hne hg
def PostS (w:World) (b p q:Nat) (T:TypeId) (pre post:Array Value) (y:Cx) (s:St) (e:Ending) (w':World):Prop:=e = .returned (.bool (decide (y.ln=8)))∧CxAt w' b T pre post y∧Ar w' p q s∧Fr [b,p,q] w w'
theorem step_on (hl:0≤y.ln∧y.ln≤7) (t:Word.Tab w) (h:CxAt w b T pre post y) (ho:pre.size=o) (hA:Ar w p q s) (hne:b≠p∧b≠q) (hg:0≠p∧0≠q∧0≠b):Calls Tryd.prog 13 #[.pointer (some ⟨b,o,none⟩),.pointer (some ⟨p,0,none⟩)] w (PostS w b p q T pre post (y.step s) (y.act s)):=by
 obtain ⟨c0,c1,c2,c3,c4,c5,c6,c7⟩:=cx_cells h ho
 have HS:=Lib.hid (acc_any hl t h ho hA hne hg)
 have HO:=Lib.hid ho
 have HNE:=Lib.hid hne
 have q0:(y.ln != 8)=true:=by simp;omega
 unfold PostS Cx.step
 generalize hx:y.nx s=nx at *
 have HX:=Lib.hid hx
 clear hx hl ho t hA hg hne h c0 c1 c2 c3 c5 c6 c7
 generalize hln:y.ln=l0 at *
 go_enter Tryd.func13,Tryd.ntmps13
 go_wp2_with fail
 refine HS.out.mono ?_;rintro e w4 ⟨rfl,h4,A4,D4⟩
 rw [HX.out]
 have HP:=Lib.hid (And.intro h4 (And.intro A4 D4))
 obtain ⟨c0,c1,c2,c3,c4,c5,c6,c7⟩:=cx_cells h4 HO.out
 have z4:=h4.frozen
 clear h4 A4 D4 c0 c1 c2 c3 c5 c6 c7
 go_wp2
 go_ret
 refine ⟨?_,?_,?_,?_⟩
 ·first | rfl | (show Ending.returned (.bool (nx == 8)) = .returned (.bool (decide (nx=8)));congr)
 ·exact Pb.set HP.out.1 HO.out (i:=4) (by show 4<13;omega) (.int .i64 nx)
 ·exact HP.out.2.1.kept (Fr.setCell (S:=[b]) (b:=b) _ (by simp)) (by simp;exact HNE.out.1.symm) (by simp;exact HNE.out.2.symm)
 ·exact HP.out.2.2.setCell' (b:=b) _ (by simp)
def Cx.go (y:Cx) (s:St):Cx×St:=if y.ln=8 then (y,s) else (y.step s,y.act s)
theorem step_any (hl:0≤y.ln∧y.ln≤8) (t:Word.Tab w) (h:CxAt w b T pre post y) (ho:pre.size=o) (hA:Ar w p q s) (hne:b≠p∧b≠q) (hg:0≠p∧0≠q∧0≠b):Calls Tryd.prog 13 #[.pointer (some ⟨b,o,none⟩),.pointer (some ⟨p,0,none⟩)] w (PostS w b p q T pre post (y.go s).1 (y.go s).2):=by
 by_cases e8:y.ln=8
 ·have eg:y.go s=(y,s):=by unfold Cx.go;rw [if_pos e8]
  rw [eg]
  obtain ⟨c0,c1,c2,c3,c4,-⟩:=cx_cells h ho
  rw [e8] at c4
  have HH:=Lib.hid (And.intro h hA)
  have HE:=Lib.hid e8
  have q0:((8:Int) != 8)=false:=by decide
  unfold PostS
  clear h hA e8 eg c0 c1 c2 c3 hl ho hg
  go_enter Tryd.func13,Tryd.ntmps13
  go_wp2
  go_ret
  exact ⟨by rw [HE.out];rfl,HH.out.1,HH.out.2,Fr.refl _ _⟩
 ·have eg:y.go s=(y.step s,y.act s):=by unfold Cx.go;rw [if_neg e8]
  rw [eg]
  exact step_on (by omega) t h ho hA hne hg
end
end Go.Proofs.YtmdplidjkkjmmaaDoor.Cc
