/- Parts. -/
import Derived.Test.YtppajakfaomkaaaGreatDoorYaa
import Derived.Test.YtppajakfaomkaaaGreatDoorYaj
import Derived.Test.YtppajakfaomkaaaGreatDoorYak
import Derived.Test.YtppajakfaomkaaaGreatDoorYaq
import Derived.Test.YtppajakfaomkaaaGreatDoorYbb
import Derived.RegionTactic
set_option linter.unusedVariables false
set_option linter.unusedSimpArgs false
set_option maxRecDepth 100000
set_option maxHeartbeats 12800000
namespace Go.Proofs.YtppajakfaomkaaaGreatDoor.Dw
open Go.RowKit Ar Mx Ch
structure Wc where
 key:Int
 line:Int
 a0:Int
 a1:Int
 a2:Int
 a3:Int
 a4:Int
def Wc.cells (y:Wc):Array Value:=#[.int .i64 y.key,.int .i64 y.line,.int .i64 y.a0,.int .i64 y.a1,.int .i64 y.a2,.int .i64 y.a3,.int .i64 y.a4]
def Y9 (w:World) (b:Nat) (T:TypeId) (pre post:Array Value) (y:Wc):Prop:=Pb w b T pre post y.cells
section
variable {w:World} {b o:Nat} {T:TypeId} {pre post:Array Value} {y:Wc}
theorem ja (h:Y9 w b T pre post y) (ho:pre.size=o):w.cell? ⟨b,o,none⟩=some (.int .i64 y.key)/\w.cell? ⟨b,o+1,none⟩=some (.int .i64 y.line)/\w.cell? ⟨b,o+2,none⟩=some (.int .i64 y.a0)/\w.cell? ⟨b,o+2+1,none⟩=some (.int .i64 y.a1)/\w.cell? ⟨b,o+2+2,none⟩=some (.int .i64 y.a2)/\w.cell? ⟨b,o+2+3,none⟩=some (.int .i64 y.a3)/\w.cell? ⟨b,o+2+4,none⟩=some (.int .i64 y.a4) :=
 ⟨h.cell (i:=0) ho rfl,h.cell (i:=1) ho rfl,h.cell (i:=2) ho rfl,h.cell (i:=3) ho rfl,h.cell (i:=4) ho rfl,h.cell (i:=5) ho rfl,h.cell (i:=6) ho rfl⟩
theorem q3s (h:Y9 w b T pre post y) (ho:pre.size=o):Calls Tryz.prog 37 #[.pointer (some ⟨b,o,none⟩)] w fun e w'=>e = .returned (.int .i64 (if y.line=5 then y.a3 else 0))/\w=w':=by
 obtain ⟨c0,c1,c2,c3,c4,c5,c6⟩:=ja h ho
 by_cases e:y.line=5
 ·have q:(y.line != 5)=false:=by simp [e]
  rw [qf e]
  rw [e] at c1
  clear e
  go_enter Tryz.func37,Tryz.ntmps37
  go_wp2
  go_ret
  exact ⟨rfl,rfl⟩
 ·have q:(y.line != 5)=true:=by simpa using e
  rw [qd e]
  clear e
  go_enter Tryz.func37,Tryz.ntmps37
  go_wp2
  go_ret
  exact ⟨rfl,rfl⟩
theorem q9c (x:Int) (h:Y9 w b T pre post y) (ho:pre.size=o):Calls Tryz.prog 137 #[.pointer (some ⟨b,o,none⟩),.int .i64 x] w fun e w'=>e = .returned (.int .i64 (if x=0 then 3 else 1))/\Y9 w' b T pre post (if x=0 then y else { y with a1:=x,a2:=x })/\Fr [b] w w':=by
 obtain ⟨c0,c1,c2,c3,c4,c5,c6⟩:=ja h ho
 have z:=h.frozen
 by_cases e:x=0
 ·have q:(x == 0)=true:=by simpa using e
  rw [qf e,qf e]
  have HH:=q9 h
  clear h e
  go_enter Tryz.func137,Tryz.ntmps137
  go_wp2
  go_ret
  exact ⟨rfl,HH.out,Fr.refl _ _⟩
 ·have q:(x == 0)=false:=by simpa using e
  rw [qd e,qd e]
  have HH:=q9 h
  clear h e
  go_enter Tryz.func137,Tryz.ntmps137
  go_wp2_with fail
  go_region
  all_goals go_wp2
  all_goals go_ret
  all_goals
   refine ⟨rfl,?_,?_⟩
   ·have k:=Pb.set (Pb.set HH.out ho (i:=3) (by show 3<7;omega) (.int .i64 x)) ho (i:=4) (by show 4<7;omega) (.int .i64 x)
    exact k
   ·first | exact (((Fr.refl [b] w).setCell' (b:=b) _ (by simp)).setCell' (b:=b) _ (by simp)).drew | exact ((((Fr.refl [b] w).drew).setCell' (b:=b) _ (by simp)).setCell' (b:=b) _ (by simp))
theorem Ti (x:Int) (h:Y9 w b T pre post y) (ho:pre.size=o):Calls Tryz.prog 138 #[.pointer (some ⟨b,o,none⟩),.int .i64 x] w fun e w'=>e = .returned (.int .i64 (if x=0 then 5 else 4))/\Y9 w' b T pre post (if x=0 then y else { y with a4:=x })/\Fr [b] w w':=by
 obtain ⟨c0,c1,c2,c3,c4,c5,c6⟩:=ja h ho
 have z:=h.frozen
 by_cases e:x=0
 ·have q:(x == 0)=true:=by simpa using e
  rw [qf e,qf e]
  have HH:=q9 h
  clear h e
  go_enter Tryz.func138,Tryz.ntmps138
  go_wp2
  go_ret
  exact ⟨rfl,HH.out,Fr.refl _ _⟩
 ·have q:(x == 0)=false:=by simpa using e
  rw [qd e,qd e]
  have HH:=q9 h
  clear h e
  go_enter Tryz.func138,Tryz.ntmps138
  go_wp2
  go_ret
  exact ⟨rfl,Pb.set HH.out ho (i:=6) (by show 6<7;omega) (.int .i64 x),Fr.setCell (S:=[b]) _ (by simp)⟩
def Wc.beh (y:Wc) (v:Int):Wc :=
 if y.line=0 then (if v=0 then y else { y with a1:=v,a2:=v })
 else if y.line=1 then y
 else if y.line=2 then (if v<=y.key then { y with a3:=y.a2 } else y)
 else if y.line=3 then (if atU v=0 then y else { y with a4:=atU v })
 else (if y.key<v then y else { y with a3:=y.a4 })
def Wc.behL (y:Wc) (v:Int):Int :=
 if y.line=0 then (if v=0 then 3 else 1)
 else if y.line=1 then (if v=0 then 2 else 3)
 else if y.line=2 then 3
 else if y.line=3 then (if atU v=0 then 5 else 4)
 else (if y.key<v then 5 else 3)
def Post1 (w:World) (b:Nat) (T:TypeId) (pre post:Array Value) (y:Wc) (ln:Int) (e:Ending) (w':World):Prop:=e = .returned (.int .i64 ln)/\Y9 w' b T pre post y/\Fr [b] w w'
theorem Ql (v:Int) (hl:0<=y.line/\y.line<=4) (h:Y9 w b T pre post y) (ho:pre.size=o):Calls Tryz.prog 95 #[.pointer (some ⟨b,o,none⟩),.int .i64 v] w (Post1 w b T pre post (y.beh v) (y.behL v)):=by
 obtain ⟨c0,c1,c2,c3,c4,c5,c6⟩:=ja h ho
 have z:=h.frozen
 have HH:=q9 h
 rcases (by omega:y.line=0\/y.line=1\/y.line=2\/y.line=3\/y.line=4) with e | e | e | e | e
 ·have e1:y.beh v=(if v=0 then y else { y with a1:=v,a2:=v }):=by unfold Wc.beh;rw [qf e]
  have e2:y.behL v=(if v=0 then 3 else 1):=by unfold Wc.behL;rw [qf e]
  have E1:=q9 e1
  have E2:=q9 e2
  rw [e] at c1
  have hk:=q9c v h ho
  rw [<- e1,<- e2] at hk
  have HK:=q9 hk
  clear hk
  generalize y.beh v=yb at *
  generalize y.behL v=lb at *
  clear e1 e2
  clear h e hl
  go_enter Tryz.func95,Tryz.ntmps95
  go_wp2_with fail
  refine HK.out.mono ?_;rintro e w1 ⟨rfl,h1,F1⟩
  have HR:=q9 (qc h1 F1)
  clear HK h1 F1
  go_wp2_with fail
  go_ret
  exact ⟨rfl,HR.out⟩
 ·have e1:y.beh v=y:=by unfold Wc.beh;rw [qd (by omega),qf e]
  have e2:y.behL v=(if v=0 then 2 else 3):=by unfold Wc.behL;rw [qd (by omega),qf e]
  have E1:=q9 e1
  have E2:=q9 e2
  generalize y.beh v=yb at *
  generalize y.behL v=lb at *
  clear e1 e2
  rw [e] at c1
  by_cases e0:v=0
  ·have q:(v != 0)=false:=by simp [e0]
   have H0:=q9 e0
   clear h e hl e0
   go_enter Tryz.func95,Tryz.ntmps95
   go_wp2_with fail
   go_ret
   refine ⟨?_,?_,Fr.refl _ _⟩
   ·rw [E2.out];first | rfl | (rw [qf H0.out];done) | (rw [qd H0.out];done) | (rw [qd (Int.not_le.mpr H0.out)];done) | (rw [qd (Int.not_lt.mpr H0.out)];done) | (rw [qf H0.out];rfl) | (rw [qd H0.out];rfl)
   ·rw [E1.out];first | exact HH.out | (rw [qf H0.out];exact HH.out) | (rw [qd H0.out];exact HH.out) | (rw [qd (Int.not_le.mpr H0.out)];exact HH.out) | (rw [qd (Int.not_lt.mpr H0.out)];exact HH.out)
  ·have q:(v != 0)=true:=by simpa using e0
   have H0:=q9 e0
   clear h e hl e0
   go_enter Tryz.func95,Tryz.ntmps95
   go_wp2_with fail
   go_ret
   refine ⟨?_,?_,Fr.refl _ _⟩
   ·rw [E2.out];first | rfl | (rw [qf H0.out];done) | (rw [qd H0.out];done) | (rw [qd (Int.not_le.mpr H0.out)];done) | (rw [qd (Int.not_lt.mpr H0.out)];done) | (rw [qf H0.out];rfl) | (rw [qd H0.out];rfl)
   ·rw [E1.out];first | exact HH.out | (rw [qf H0.out];exact HH.out) | (rw [qd H0.out];exact HH.out) | (rw [qd (Int.not_le.mpr H0.out)];exact HH.out) | (rw [qd (Int.not_lt.mpr H0.out)];exact HH.out)
 ·have e1:y.beh v=(if v<=y.key then { y with a3:=y.a2 } else y):=by unfold Wc.beh;rw [qd (by omega),qd (by omega),qf e]
  have e2:y.behL v=3:=by unfold Wc.behL;rw [qd (by omega),qd (by omega),qf e]
  have E1:=q9 e1
  have E2:=q9 e2
  generalize y.beh v=yb at *
  generalize y.behL v=lb at *
  clear e1 e2
  rw [e] at c1
  by_cases e0:v<=y.key
  ·have q:decide (v<=y.key)=true:=by simpa using e0
   have H0:=q9 e0
   clear h e hl e0
   go_enter Tryz.func95,Tryz.ntmps95
   go_wp2_with fail
   go_region
   all_goals go_wp2_with fail
   all_goals go_ret
   all_goals refine ⟨?_,?_,?_⟩
   ·rw [E2.out];first | rfl | (rw [qf H0.out];done) | (rw [qd H0.out];done) | (rw [qd (Int.not_le.mpr H0.out)];done) | (rw [qd (Int.not_lt.mpr H0.out)];done) | (rw [qf H0.out];rfl) | (rw [qd H0.out];rfl)
   ·rw [E1.out];first | (rw [qf H0.out];exact Pb.set HH.out ho (i:=5) (by show 5<7;omega) (.int .i64 y.a2)) | (rw [qd (Int.not_lt.mpr H0.out)];exact Pb.set HH.out ho (i:=5) (by show 5<7;omega) (.int .i64 y.a2))
   ·first | exact ((Fr.refl [b] w).setCell' (b:=b) _ (by simp)).drew | exact (((Fr.refl [b] w).drewN _).setCell' (b:=b) _ (by simp))
  ·have q:decide (v<=y.key)=false:=by simpa using e0
   have H0:=q9 e0
   clear h e hl e0
   go_enter Tryz.func95,Tryz.ntmps95
   go_wp2_with fail
   go_ret
   refine ⟨?_,?_,Fr.refl _ _⟩
   ·rw [E2.out];first | rfl | (rw [qf H0.out];done) | (rw [qd H0.out];done) | (rw [qd (Int.not_le.mpr H0.out)];done) | (rw [qd (Int.not_lt.mpr H0.out)];done) | (rw [qf H0.out];rfl) | (rw [qd H0.out];rfl)
   ·rw [E1.out];first | exact HH.out | (rw [qf H0.out];exact HH.out) | (rw [qd H0.out];exact HH.out) | (rw [qd (Int.not_le.mpr H0.out)];exact HH.out) | (rw [qd (Int.not_lt.mpr H0.out)];exact HH.out)
 ·have e1:y.beh v=(if atU v=0 then y else { y with a4:=atU v }):=by unfold Wc.beh;rw [qd (by omega),qd (by omega),qd (by omega),qf e]
  have e2:y.behL v=(if atU v=0 then 5 else 4):=by unfold Wc.behL;rw [qd (by omega),qd (by omega),qd (by omega),qf e]
  have E1:=q9 e1
  have E2:=q9 e2
  have hk:=Ti (atU v) h ho
  rw [<- e1,<- e2] at hk
  have HK:=q9 hk
  clear hk
  generalize y.beh v=yb at *
  generalize y.behL v=lb at *
  clear e1 e2
  rw [e] at c1
  clear h e hl
  go_enter Tryz.func95,Tryz.ntmps95
  go_wp2_with fail
  refine (Ch.Vn _ _).mono ?_;rintro e _ ⟨rfl,rfl⟩
  generalize atU v=u at *
  go_wp2_with fail
  refine HK.out.mono ?_;rintro e w1 ⟨rfl,h1,F1⟩
  have HR:=q9 (qc h1 F1)
  clear HK h1 F1
  go_wp2_with fail
  go_ret
  exact ⟨rfl,HR.out⟩
 ·have e1:y.beh v=(if y.key<v then y else { y with a3:=y.a4 }):=by unfold Wc.beh;rw [qd (by omega),qd (by omega),qd (by omega),qd (by omega)]
  have e2:y.behL v=(if y.key<v then 5 else 3):=by unfold Wc.behL;rw [qd (by omega),qd (by omega),qd (by omega),qd (by omega)]
  have E1:=q9 e1
  have E2:=q9 e2
  generalize y.beh v=yb at *
  generalize y.behL v=lb at *
  clear e1 e2
  rw [e] at c1
  by_cases e0:y.key<v
  ·have q:decide (v>y.key)=true:=by simpa using e0
   have q2:decide (y.key<v)=true:=by simpa using e0
   have H0:=q9 e0
   clear h e hl e0
   go_enter Tryz.func95,Tryz.ntmps95
   go_wp2_with fail
   go_ret
   refine ⟨?_,?_,Fr.refl _ _⟩
   ·rw [E2.out];first | rfl | (rw [qf H0.out];done) | (rw [qd H0.out];done) | (rw [qd (Int.not_le.mpr H0.out)];done) | (rw [qd (Int.not_lt.mpr H0.out)];done) | (rw [qf H0.out];rfl) | (rw [qd H0.out];rfl)
   ·rw [E1.out];first | exact HH.out | (rw [qf H0.out];exact HH.out) | (rw [qd H0.out];exact HH.out) | (rw [qd (Int.not_le.mpr H0.out)];exact HH.out) | (rw [qd (Int.not_lt.mpr H0.out)];exact HH.out)
  ·have q:decide (v>y.key)=false:=by simpa using e0
   have q2:decide (y.key<v)=false:=by simpa using e0
   have H0:=q9 e0
   clear h e hl e0
   go_enter Tryz.func95,Tryz.ntmps95
   go_wp2_with fail
   go_region
   all_goals go_wp2_with fail
   all_goals go_ret
   all_goals refine ⟨?_,?_,?_⟩
   ·rw [E2.out];first | rfl | (rw [qf H0.out];done) | (rw [qd H0.out];done) | (rw [qd (Int.not_le.mpr H0.out)];done) | (rw [qd (Int.not_lt.mpr H0.out)];done) | (rw [qd (Int.not_lt.mpr H0.out)];rfl) | (rw [qf H0.out];rfl) | (rw [qd H0.out];rfl)
   ·rw [E1.out];first | (rw [qf H0.out];exact Pb.set HH.out ho (i:=5) (by show 5<7;omega) (.int .i64 y.a4)) | (rw [qd (Int.not_lt.mpr H0.out)];exact Pb.set HH.out ho (i:=5) (by show 5<7;omega) (.int .i64 y.a4))
   ·first | exact ((Fr.refl [b] w).setCell' (b:=b) _ (by simp)).drew | exact (((Fr.refl [b] w).drewN _).setCell' (b:=b) _ (by simp))
end
def Fl (w:World):Prop:=w.cell? ⟨0,0,none⟩=some (.int .i64 0)/\w.cell? ⟨0,1,none⟩=some (.int .i64 6)/\w.cell? ⟨0,2,none⟩=some (.int .i64 0)/\w.cell? ⟨0,3,none⟩=some (.int .i64 2)/\w.cell? ⟨0,4,none⟩=some (.int .i64 0)
theorem Fl.kept {S:List Nat} {w w':World} (t:Fl w) (f:Fr S w w') (h:0∉S):Fl w':=by
 obtain ⟨t0,t1,t2,t3,t4⟩:=t
 exact ⟨f.cell t0 h,f.cell t1 h,f.cell t2 h,f.cell t3 h,f.cell t4 h⟩
theorem Fl.up {w w':World} (t:Fl w) (f:Fr [] w w'):Fl w':=t.kept f (by simp)
def Wc.looks (y:Wc):Int:=if y.line=0 then wrap64 y.a0 else if y.line=1 then wrap64 (y.a1+6) else if y.line=2 then wrap64 y.a2 else if y.line=3 then wrap64 (y.a3+2) else wrap64 y.a4
def Wc.step (y:Wc) (v:Int):Wc:={ y.beh v with line:=y.behL v }
def q3a (w:World) (b p q:Nat) (T:TypeId) (pre post:Array Value) (y:Wc) (s:St) (e:Ending) (w':World):Prop:=e = .returned (.bool (decide (y.line=5)))/\Y9 w' b T pre post y/\Ar w' p q s/\Fr [b,p,q] w w'
theorem Xe (y:Wc) (v:Int) (l:Int):(y.beh v).cells.setIfInBounds 1 (.int .i64 l)=({ y.beh v with line:=l }:Wc).cells:=rfl
section
variable {w:World} {b o p q:Nat} {T:TypeId} {pre post:Array Value} {y:Wc} {s:St}
theorem qc0 (hl:y.line=0) (h:Y9 w b T pre post y) (ho:pre.size=o) (hf:Fl w) (hA:Ar w p q s) (hne:b≠p/\b≠q) (hg:0≠p/\0≠q) :
  Calls Tryz.prog 36 #[.pointer (some ⟨b,o,none⟩),.pointer (some ⟨p,0,none⟩)] w (q3a w b p q T pre post (y.step (qq s.l y.looks)) (s.load y.looks)):=by
 obtain ⟨c0,c1,c2,c3,c4,c5,c6⟩:=ja h ho
 have el:y.looks=wrap64 y.a0:=by unfold Wc.looks;rw [qf hl]
 rw [hl] at c1
 rw [el]
 obtain ⟨hbp,hbq⟩:=hne
 obtain ⟨hgp,hgq⟩:=hg
 have HY:=q9 (qc hl ho)
 clear hl ho el
 obtain ⟨t0,t1,t2,t3,t4⟩:=hf
 have q0:((0:Int) != 5)=true:=by decide
 go_enter Tryz.func36,Tryz.ntmps36
 go_wp2_with fail
 refine qo (by kernel_rfl) ?_
 refine yh 0 rfl (by kernel_rfl) (by kernel_rfl) (by kernel_rfl) rfl (fun _ _ d _ _ h=>by cases d <;> exact h) ?_
 go_frame
 refine z6 [p,q] w #[true,true,true,true,true,true,true,true,true,true,true,true,true,true,true,true,true,true,true,true,false,false,false,false] 19 4 rfl ?_
 refine Zc [false,true,true,true,true,true,true,true,true,true,true,true,true,true,true,true,true,true,true,false,false,false,false,false] 1 (n:=38) (listed':=#[true,true,true,true,true,true,true,true,true,true,true,true,true,true,true,true,true,true,true,false,false,false,false,false]) rfl (by kernel_rfl) (by kernel_rfl) (by kernel_rfl) (by kernel_rfl) (by kernel_rfl) rfl (by kernel_rfl) (fun _ _ d _ _ h=>by cases d <;> exact h) ((Fr.refl _ w).drew) ?_
 apply qg
 refine ⟨fun wf Ff=>?_,?_⟩
 ·have d1:=Ff.cell c1 (by simp;exact ⟨hbp,hbq⟩)
  have d2:=Ff.cell c2 (by simp;exact ⟨hbp,hbq⟩)
  have d3:=Ff.cell t0 (by simp;exact ⟨hgp,hgq⟩)
  have k1:=qb d1
  have k2:=qb d2
  have k3:=qb d3
  clear d1 d2 d3
  simp only [sel]
  repeat (go_big_quiet_step (fail))
  exact wpQuiet_nil rfl
 refine loq 19 (fun w3 F3=>?_)
 have D3:=(Fr.refl [] w).drew.trans F3
 have A3:=hA.kept D3
 have h3:Y9 w3 b T pre post y:=h.up D3
 clear hA h F3 c0 c1 c2 c3 c4 c5 c6 t0 t1 t2 t3 t4
 go_wp2_with fail
 refine (Ar.zi _ p q s _ A3).mono ?_;rintro e w4 ⟨rfl,A4,F4⟩
 generalize wrap64 y.a0=lk at *
 go_wp2_with fail
 refine ql ⟨(D3.mono).trans F4,?_⟩
 refine qx (k:=20) rfl (by kernel_rfl) (fun w5 F5=>?_)
 have A5:=A4.kept F5
 have h5:Y9 w5 b T pre post y:=(h3.kept F4 (by simp;exact ⟨hbp,hbq⟩)).up F5
 have D5:Fr [b,p,q] w w5:=((D3.mono).trans (F4.mono)).then F5
 have HB:=q9 (Ql (w:=w5) (qq s.l lk) (by have:=HY.out.1;omega) h5 HY.out.2)
 clear A3 A4 h3 F4 F5 D3 h5
 go_wp2_with fail
 refine HB.out.mono ?_;rintro e w7 ⟨rfl,h7,F7⟩
 have A7:=A5.kept F7 (by simp;exact hbp.symm) (by simp;exact hbq.symm)
 have D7:Fr [b,p,q] w w7:=D5.trans (F7.mono)
 have HP:=q9 (qc h7 (qc A7 D7))
 obtain ⟨-,e1,-⟩:=ja h7 HY.out.2
 have z7:=h7.frozen
 clear HB A5 D5 F7 D7 h7 A7
 generalize hlb:y.behL (qq s.l lk)=lb at *
 go_wp2_with fail
 go_ret
 obtain ⟨h7,A7,D7⟩:=HP.out
 refine ⟨?_,?_,?_,?_⟩
 ·show Ending.returned (.bool (lb == 5)) = .returned (.bool (decide (y.behL (qq s.l lk)=5)))
  rw [hlb];congr
 ·have k:=Pb.set h7 HY.out.2 (i:=1) (by show 1<7;omega) (.int .i64 lb)
  rw [Xe,<- hlb] at k;rw [<- hlb];exact k
 ·exact A7.kept (Fr.setCell (S:=[b]) (b:=b) _ (by simp)) (by simp;exact hbp.symm) (by simp;exact hbq.symm)
 ·exact D7.setCell' (b:=b) _ (by simp)
theorem qci (hl:y.line=1) (h:Y9 w b T pre post y) (ho:pre.size=o) (hf:Fl w) (hA:Ar w p q s) (hne:b≠p/\b≠q) (hg:0≠p/\0≠q) :
  Calls Tryz.prog 36 #[.pointer (some ⟨b,o,none⟩),.pointer (some ⟨p,0,none⟩)] w (q3a w b p q T pre post (y.step (qq s.l y.looks)) (s.load y.looks)):=by
 obtain ⟨c0,c1,c2,c3,c4,c5,c6⟩:=ja h ho
 have el:y.looks=wrap64 (y.a1+6):=by unfold Wc.looks;rw [qd (by omega),qf hl]
 rw [hl] at c1
 rw [el]
 obtain ⟨hbp,hbq⟩:=hne
 obtain ⟨hgp,hgq⟩:=hg
 have HY:=q9 (qc hl ho)
 clear hl ho el
 obtain ⟨t0,t1,t2,t3,t4⟩:=hf
 have q0:((1:Int) != 5)=true:=by decide
 go_enter Tryz.func36,Tryz.ntmps36
 go_wp2_with fail
 refine qo (by kernel_rfl) ?_
 refine yh 0 rfl (by kernel_rfl) (by kernel_rfl) (by kernel_rfl) rfl (fun _ _ d _ _ h=>by cases d <;> exact h) ?_
 go_frame
 refine z6 [p,q] w #[true,true,true,true,true,true,true,true,true,true,true,true,true,true,true,true,true,true,true,true,false,false,false,false] 19 4 rfl ?_
 refine Zc [false,true,true,true,true,true,true,true,true,true,true,true,true,true,true,true,true,true,true,false,false,false,false,false] 1 (n:=38) (listed':=#[true,true,true,true,true,true,true,true,true,true,true,true,true,true,true,true,true,true,true,false,false,false,false,false]) rfl (by kernel_rfl) (by kernel_rfl) (by kernel_rfl) (by kernel_rfl) (by kernel_rfl) rfl (by kernel_rfl) (fun _ _ d _ _ h=>by cases d <;> exact h) ((Fr.refl _ w).drew) ?_
 apply qg
 refine ⟨fun wf Ff=>?_,?_⟩
 ·have d1:=Ff.cell c1 (by simp;exact ⟨hbp,hbq⟩)
  have d2:=Ff.cell c3 (by simp;exact ⟨hbp,hbq⟩)
  have d3:=Ff.cell t1 (by simp;exact ⟨hgp,hgq⟩)
  have k1:=qb d1
  have k2:=qb d2
  have k3:=qb d3
  clear d1 d2 d3
  simp only [sel]
  repeat (go_big_quiet_step (fail))
  exact wpQuiet_nil rfl
 refine loq 19 (fun w3 F3=>?_)
 have D3:=(Fr.refl [] w).drew.trans F3
 have A3:=hA.kept D3
 have h3:Y9 w3 b T pre post y:=h.up D3
 clear hA h F3 c0 c1 c2 c3 c4 c5 c6 t0 t1 t2 t3 t4
 go_wp2_with fail
 refine (Ar.zi _ p q s _ A3).mono ?_;rintro e w4 ⟨rfl,A4,F4⟩
 generalize wrap64 (y.a1+6)=lk at *
 go_wp2_with fail
 refine ql ⟨(D3.mono).trans F4,?_⟩
 refine qx (k:=20) rfl (by kernel_rfl) (fun w5 F5=>?_)
 have A5:=A4.kept F5
 have h5:Y9 w5 b T pre post y:=(h3.kept F4 (by simp;exact ⟨hbp,hbq⟩)).up F5
 have D5:Fr [b,p,q] w w5:=((D3.mono).trans (F4.mono)).then F5
 have HB:=q9 (Ql (w:=w5) (qq s.l lk) (by have:=HY.out.1;omega) h5 HY.out.2)
 clear A3 A4 h3 F4 F5 D3 h5
 go_wp2_with fail
 refine HB.out.mono ?_;rintro e w7 ⟨rfl,h7,F7⟩
 have A7:=A5.kept F7 (by simp;exact hbp.symm) (by simp;exact hbq.symm)
 have D7:Fr [b,p,q] w w7:=D5.trans (F7.mono)
 have HP:=q9 (qc h7 (qc A7 D7))
 obtain ⟨-,e1,-⟩:=ja h7 HY.out.2
 have z7:=h7.frozen
 clear HB A5 D5 F7 D7 h7 A7
 generalize hlb:y.behL (qq s.l lk)=lb at *
 go_wp2_with fail
 go_ret
 obtain ⟨h7,A7,D7⟩:=HP.out
 refine ⟨?_,?_,?_,?_⟩
 ·show Ending.returned (.bool (lb == 5)) = .returned (.bool (decide (y.behL (qq s.l lk)=5)))
  rw [hlb];congr
 ·have k:=Pb.set h7 HY.out.2 (i:=1) (by show 1<7;omega) (.int .i64 lb)
  rw [Xe,<- hlb] at k;rw [<- hlb];exact k
 ·exact A7.kept (Fr.setCell (S:=[b]) (b:=b) _ (by simp)) (by simp;exact hbp.symm) (by simp;exact hbq.symm)
 ·exact D7.setCell' (b:=b) _ (by simp)
theorem qd8 (hl:y.line=2) (h:Y9 w b T pre post y) (ho:pre.size=o) (hf:Fl w) (hA:Ar w p q s) (hne:b≠p/\b≠q) (hg:0≠p/\0≠q) :
  Calls Tryz.prog 36 #[.pointer (some ⟨b,o,none⟩),.pointer (some ⟨p,0,none⟩)] w (q3a w b p q T pre post (y.step (qq s.l y.looks)) (s.load y.looks)):=by
 obtain ⟨c0,c1,c2,c3,c4,c5,c6⟩:=ja h ho
 have el:y.looks=wrap64 y.a2:=by unfold Wc.looks;rw [qd (by omega),qd (by omega),qf hl]
 rw [hl] at c1
 rw [el]
 obtain ⟨hbp,hbq⟩:=hne
 obtain ⟨hgp,hgq⟩:=hg
 have HY:=q9 (qc hl ho)
 clear hl ho el
 obtain ⟨t0,t1,t2,t3,t4⟩:=hf
 have q0:((2:Int) != 5)=true:=by decide
 go_enter Tryz.func36,Tryz.ntmps36
 go_wp2_with fail
 refine qo (by kernel_rfl) ?_
 refine yh 0 rfl (by kernel_rfl) (by kernel_rfl) (by kernel_rfl) rfl (fun _ _ d _ _ h=>by cases d <;> exact h) ?_
 go_frame
 refine z6 [p,q] w #[true,true,true,true,true,true,true,true,true,true,true,true,true,true,true,true,true,true,true,true,false,false,false,false] 19 4 rfl ?_
 refine Zc [false,true,true,true,true,true,true,true,true,true,true,true,true,true,true,true,true,true,true,false,false,false,false,false] 1 (n:=38) (listed':=#[true,true,true,true,true,true,true,true,true,true,true,true,true,true,true,true,true,true,true,false,false,false,false,false]) rfl (by kernel_rfl) (by kernel_rfl) (by kernel_rfl) (by kernel_rfl) (by kernel_rfl) rfl (by kernel_rfl) (fun _ _ d _ _ h=>by cases d <;> exact h) ((Fr.refl _ w).drew) ?_
 apply qg
 refine ⟨fun wf Ff=>?_,?_⟩
 ·have d1:=Ff.cell c1 (by simp;exact ⟨hbp,hbq⟩)
  have d2:=Ff.cell c4 (by simp;exact ⟨hbp,hbq⟩)
  have d3:=Ff.cell t2 (by simp;exact ⟨hgp,hgq⟩)
  have k1:=qb d1
  have k2:=qb d2
  have k3:=qb d3
  clear d1 d2 d3
  simp only [sel]
  repeat (go_big_quiet_step (fail))
  exact wpQuiet_nil rfl
 refine loq 19 (fun w3 F3=>?_)
 have D3:=(Fr.refl [] w).drew.trans F3
 have A3:=hA.kept D3
 have h3:Y9 w3 b T pre post y:=h.up D3
 clear hA h F3 c0 c1 c2 c3 c4 c5 c6 t0 t1 t2 t3 t4
 go_wp2_with fail
 refine (Ar.zi _ p q s _ A3).mono ?_;rintro e w4 ⟨rfl,A4,F4⟩
 generalize wrap64 y.a2=lk at *
 go_wp2_with fail
 refine ql ⟨(D3.mono).trans F4,?_⟩
 refine qx (k:=20) rfl (by kernel_rfl) (fun w5 F5=>?_)
 have A5:=A4.kept F5
 have h5:Y9 w5 b T pre post y:=(h3.kept F4 (by simp;exact ⟨hbp,hbq⟩)).up F5
 have D5:Fr [b,p,q] w w5:=((D3.mono).trans (F4.mono)).then F5
 have HB:=q9 (Ql (w:=w5) (qq s.l lk) (by have:=HY.out.1;omega) h5 HY.out.2)
 clear A3 A4 h3 F4 F5 D3 h5
 go_wp2_with fail
 refine HB.out.mono ?_;rintro e w7 ⟨rfl,h7,F7⟩
 have A7:=A5.kept F7 (by simp;exact hbp.symm) (by simp;exact hbq.symm)
 have D7:Fr [b,p,q] w w7:=D5.trans (F7.mono)
 have HP:=q9 (qc h7 (qc A7 D7))
 obtain ⟨-,e1,-⟩:=ja h7 HY.out.2
 have z7:=h7.frozen
 clear HB A5 D5 F7 D7 h7 A7
 generalize hlb:y.behL (qq s.l lk)=lb at *
 go_wp2_with fail
 go_ret
 obtain ⟨h7,A7,D7⟩:=HP.out
 refine ⟨?_,?_,?_,?_⟩
 ·show Ending.returned (.bool (lb == 5)) = .returned (.bool (decide (y.behL (qq s.l lk)=5)))
  rw [hlb];congr
 ·have k:=Pb.set h7 HY.out.2 (i:=1) (by show 1<7;omega) (.int .i64 lb)
  rw [Xe,<- hlb] at k;rw [<- hlb];exact k
 ·exact A7.kept (Fr.setCell (S:=[b]) (b:=b) _ (by simp)) (by simp;exact hbp.symm) (by simp;exact hbq.symm)
 ·exact D7.setCell' (b:=b) _ (by simp)
theorem qcc (hl:y.line=3) (h:Y9 w b T pre post y) (ho:pre.size=o) (hf:Fl w) (hA:Ar w p q s) (hne:b≠p/\b≠q) (hg:0≠p/\0≠q) :
  Calls Tryz.prog 36 #[.pointer (some ⟨b,o,none⟩),.pointer (some ⟨p,0,none⟩)] w (q3a w b p q T pre post (y.step (qq s.l y.looks)) (s.load y.looks)):=by
 obtain ⟨c0,c1,c2,c3,c4,c5,c6⟩:=ja h ho
 have el:y.looks=wrap64 (y.a3+2):=by unfold Wc.looks;rw [qd (by omega),qd (by omega),qd (by omega),qf hl]
 rw [hl] at c1
 rw [el]
 obtain ⟨hbp,hbq⟩:=hne
 obtain ⟨hgp,hgq⟩:=hg
 have HY:=q9 (qc hl ho)
 clear hl ho el
 obtain ⟨t0,t1,t2,t3,t4⟩:=hf
 have q0:((3:Int) != 5)=true:=by decide
 go_enter Tryz.func36,Tryz.ntmps36
 go_wp2_with fail
 refine qo (by kernel_rfl) ?_
 refine yh 0 rfl (by kernel_rfl) (by kernel_rfl) (by kernel_rfl) rfl (fun _ _ d _ _ h=>by cases d <;> exact h) ?_
 go_frame
 refine z6 [p,q] w #[true,true,true,true,true,true,true,true,true,true,true,true,true,true,true,true,true,true,true,true,false,false,false,false] 19 4 rfl ?_
 refine Zc [false,true,true,true,true,true,true,true,true,true,true,true,true,true,true,true,true,true,true,false,false,false,false,false] 1 (n:=38) (listed':=#[true,true,true,true,true,true,true,true,true,true,true,true,true,true,true,true,true,true,true,false,false,false,false,false]) rfl (by kernel_rfl) (by kernel_rfl) (by kernel_rfl) (by kernel_rfl) (by kernel_rfl) rfl (by kernel_rfl) (fun _ _ d _ _ h=>by cases d <;> exact h) ((Fr.refl _ w).drew) ?_
 apply qg
 refine ⟨fun wf Ff=>?_,?_⟩
 ·have d1:=Ff.cell c1 (by simp;exact ⟨hbp,hbq⟩)
  have d2:=Ff.cell c5 (by simp;exact ⟨hbp,hbq⟩)
  have d3:=Ff.cell t3 (by simp;exact ⟨hgp,hgq⟩)
  have k1:=qb d1
  have k2:=qb d2
  have k3:=qb d3
  clear d1 d2 d3
  simp only [sel]
  repeat (go_big_quiet_step (fail))
  exact wpQuiet_nil rfl
 refine loq 19 (fun w3 F3=>?_)
 have D3:=(Fr.refl [] w).drew.trans F3
 have A3:=hA.kept D3
 have h3:Y9 w3 b T pre post y:=h.up D3
 clear hA h F3 c0 c1 c2 c3 c4 c5 c6 t0 t1 t2 t3 t4
 go_wp2_with fail
 refine (Ar.zi _ p q s _ A3).mono ?_;rintro e w4 ⟨rfl,A4,F4⟩
 generalize wrap64 (y.a3+2)=lk at *
 go_wp2_with fail
 refine ql ⟨(D3.mono).trans F4,?_⟩
 refine qx (k:=20) rfl (by kernel_rfl) (fun w5 F5=>?_)
 have A5:=A4.kept F5
 have h5:Y9 w5 b T pre post y:=(h3.kept F4 (by simp;exact ⟨hbp,hbq⟩)).up F5
 have D5:Fr [b,p,q] w w5:=((D3.mono).trans (F4.mono)).then F5
 have HB:=q9 (Ql (w:=w5) (qq s.l lk) (by have:=HY.out.1;omega) h5 HY.out.2)
 clear A3 A4 h3 F4 F5 D3 h5
 go_wp2_with fail
 refine HB.out.mono ?_;rintro e w7 ⟨rfl,h7,F7⟩
 have A7:=A5.kept F7 (by simp;exact hbp.symm) (by simp;exact hbq.symm)
 have D7:Fr [b,p,q] w w7:=D5.trans (F7.mono)
 have HP:=q9 (qc h7 (qc A7 D7))
 obtain ⟨-,e1,-⟩:=ja h7 HY.out.2
 have z7:=h7.frozen
 clear HB A5 D5 F7 D7 h7 A7
 generalize hlb:y.behL (qq s.l lk)=lb at *
 go_wp2_with fail
 go_ret
 obtain ⟨h7,A7,D7⟩:=HP.out
 refine ⟨?_,?_,?_,?_⟩
 ·show Ending.returned (.bool (lb == 5)) = .returned (.bool (decide (y.behL (qq s.l lk)=5)))
  rw [hlb];congr
 ·have k:=Pb.set h7 HY.out.2 (i:=1) (by show 1<7;omega) (.int .i64 lb)
  rw [Xe,<- hlb] at k;rw [<- hlb];exact k
 ·exact A7.kept (Fr.setCell (S:=[b]) (b:=b) _ (by simp)) (by simp;exact hbp.symm) (by simp;exact hbq.symm)
 ·exact D7.setCell' (b:=b) _ (by simp)
theorem qct (hl:y.line=4) (h:Y9 w b T pre post y) (ho:pre.size=o) (hf:Fl w) (hA:Ar w p q s) (hne:b≠p/\b≠q) (hg:0≠p/\0≠q) :
  Calls Tryz.prog 36 #[.pointer (some ⟨b,o,none⟩),.pointer (some ⟨p,0,none⟩)] w (q3a w b p q T pre post (y.step (qq s.l y.looks)) (s.load y.looks)):=by
 obtain ⟨c0,c1,c2,c3,c4,c5,c6⟩:=ja h ho
 have el:y.looks=wrap64 y.a4:=by unfold Wc.looks;rw [qd (by omega),qd (by omega),qd (by omega),qd (by omega)]
 rw [hl] at c1
 rw [el]
 obtain ⟨hbp,hbq⟩:=hne
 obtain ⟨hgp,hgq⟩:=hg
 have HY:=q9 (qc hl ho)
 clear hl ho el
 obtain ⟨t0,t1,t2,t3,t4⟩:=hf
 have q0:((4:Int) != 5)=true:=by decide
 go_enter Tryz.func36,Tryz.ntmps36
 go_wp2_with fail
 refine qo (by kernel_rfl) ?_
 refine yh 0 rfl (by kernel_rfl) (by kernel_rfl) (by kernel_rfl) rfl (fun _ _ d _ _ h=>by cases d <;> exact h) ?_
 go_frame
 refine z6 [p,q] w #[true,true,true,true,true,true,true,true,true,true,true,true,true,true,true,true,true,true,true,true,false,false,false,false] 19 4 rfl ?_
 refine Zc [false,true,true,true,true,true,true,true,true,true,true,true,true,true,true,true,true,true,true,false,false,false,false,false] 1 (n:=38) (listed':=#[true,true,true,true,true,true,true,true,true,true,true,true,true,true,true,true,true,true,true,false,false,false,false,false]) rfl (by kernel_rfl) (by kernel_rfl) (by kernel_rfl) (by kernel_rfl) (by kernel_rfl) rfl (by kernel_rfl) (fun _ _ d _ _ h=>by cases d <;> exact h) ((Fr.refl _ w).drew) ?_
 apply qg
 refine ⟨fun wf Ff=>?_,?_⟩
 ·have d1:=Ff.cell c1 (by simp;exact ⟨hbp,hbq⟩)
  have d2:=Ff.cell c6 (by simp;exact ⟨hbp,hbq⟩)
  have d3:=Ff.cell t4 (by simp;exact ⟨hgp,hgq⟩)
  have k1:=qb d1
  have k2:=qb d2
  have k3:=qb d3
  clear d1 d2 d3
  simp only [sel]
  repeat (go_big_quiet_step (fail))
  exact wpQuiet_nil rfl
 refine loq 19 (fun w3 F3=>?_)
 have D3:=(Fr.refl [] w).drew.trans F3
 have A3:=hA.kept D3
 have h3:Y9 w3 b T pre post y:=h.up D3
 clear hA h F3 c0 c1 c2 c3 c4 c5 c6 t0 t1 t2 t3 t4
 go_wp2_with fail
 refine (Ar.zi _ p q s _ A3).mono ?_;rintro e w4 ⟨rfl,A4,F4⟩
 generalize wrap64 y.a4=lk at *
 go_wp2_with fail
 refine ql ⟨(D3.mono).trans F4,?_⟩
 refine qx (k:=20) rfl (by kernel_rfl) (fun w5 F5=>?_)
 have A5:=A4.kept F5
 have h5:Y9 w5 b T pre post y:=(h3.kept F4 (by simp;exact ⟨hbp,hbq⟩)).up F5
 have D5:Fr [b,p,q] w w5:=((D3.mono).trans (F4.mono)).then F5
 have HB:=q9 (Ql (w:=w5) (qq s.l lk) (by have:=HY.out.1;omega) h5 HY.out.2)
 clear A3 A4 h3 F4 F5 D3 h5
 go_wp2_with fail
 refine HB.out.mono ?_;rintro e w7 ⟨rfl,h7,F7⟩
 have A7:=A5.kept F7 (by simp;exact hbp.symm) (by simp;exact hbq.symm)
 have D7:Fr [b,p,q] w w7:=D5.trans (F7.mono)
 have HP:=q9 (qc h7 (qc A7 D7))
 obtain ⟨-,e1,-⟩:=ja h7 HY.out.2
 have z7:=h7.frozen
 clear HB A5 D5 F7 D7 h7 A7
 generalize hlb:y.behL (qq s.l lk)=lb at *
 go_wp2_with fail
 go_ret
 obtain ⟨h7,A7,D7⟩:=HP.out
 refine ⟨?_,?_,?_,?_⟩
 ·show Ending.returned (.bool (lb == 5)) = .returned (.bool (decide (y.behL (qq s.l lk)=5)))
  rw [hlb];congr
 ·have k:=Pb.set h7 HY.out.2 (i:=1) (by show 1<7;omega) (.int .i64 lb)
  rw [Xe,<- hlb] at k;rw [<- hlb];exact k
 ·exact A7.kept (Fr.setCell (S:=[b]) (b:=b) _ (by simp)) (by simp;exact hbp.symm) (by simp;exact hbq.symm)
 ·exact D7.setCell' (b:=b) _ (by simp)
theorem q5s (hl:0<=y.line/\y.line<=5) (h:Y9 w b T pre post y) (ho:pre.size=o) (hf:Fl w) (hA:Ar w p q s) (hne:b≠p/\b≠q) (hg:0≠p/\0≠q) :
  Calls Tryz.prog 36 #[.pointer (some ⟨b,o,none⟩),.pointer (some ⟨p,0,none⟩)] w (q3a w b p q T pre post (if y.line=5 then y else y.step (qq s.l y.looks)) (if y.line=5 then s else s.load y.looks)):=by
 by_cases e5:y.line=5
 ·rw [qf e5,qf e5]
  obtain ⟨c0,c1,c2,c3,c4,c5,c6⟩:=ja h ho
  have HS:=q9 (qc h (qc hA e5))
  rw [e5] at c1
  clear h hA hl e5
  go_enter Tryz.func36,Tryz.ntmps36
  go_wp2
  go_ret
  exact ⟨by rw [decide_eq_true HS.out.2.2];rfl,HS.out.1,HS.out.2.1,Fr.refl _ _⟩
 ·rw [qd e5,qd e5]
  rcases (by omega:y.line=0\/y.line=1\/y.line=2\/y.line=3\/y.line=4) with e | e | e | e | e
  ·exact qc0 e h ho hf hA hne hg
  ·exact qci e h ho hf hA hne hg
  ·exact qd8 e h ho hf hA hne hg
  ·exact qcc e h ho hf hA hne hg
  ·exact qct e h ho hf hA hne hg
end
def Wc.new (c:Cf) (key:Int):Wc:=⟨key,0,Zw c key,0,0,xm c,0⟩
theorem q91 (c:Cf) (hc:c.Ok) (key:Int) (hk:0<=key/\key<=63) (w:World):Calls Tryz.prog 35 #[c.val,.int .i64 key] w fun e w'=>∃ b,e = .returned (.pointer (some ⟨b,0,none⟩))/\w.heap.size<=b/\Y9 w' b 117 #[] #[] (Wc.new c key)/\Fr [] w w':=by
 unfold Cf.val
 obtain ⟨c0,c1,c2,c3⟩:=Pl.yf (Go.heap_alloc_new w (.cells #[.int .i64 c.t,.int .i64 c.c,.int .i64 c.wd,.int .i64 c.v] 23))
 have F0:=(Fr.refl [] w).alloc (.cells #[.int .i64 c.t,.int .i64 c.c,.int .i64 c.wd,.int .i64 c.v] 23)
 have hc1:=hc.t1
 have hc8:=hc.t8
 have HC:=q9 (qc hc hk)
 have hh:=q9 (fun w=>Pl.Ja c.t c.c c.wd c.v key hc1 hc8 hk.1 hk.2 w)
 have hd:=q9 (fun w=>Pl.Q5 c.t c.c c.wd c.v hc1 hc8 w)
 clear hc hk hc1 hc8
 go_enter Tryz.func35,Tryz.ntmps35
 go_wp2_with fail
 generalize hw1:(w.alloc (.cells #[.int .i64 c.t,.int .i64 c.c,.int .i64 c.wd,.int .i64 c.v] 23))=w1 at *
 refine qo (by kernel_rfl) ?_
 refine z6 [] w1 #[true,true,true,true,true,true,true,true,false,false] 8 2 rfl ?_
 refine Zc [true,true,true,true,true,true,true,true,false,false] 0 (n:=14) (listed':=#[true,true,true,true,true,true,true,true,false,false]) rfl (by kernel_rfl) (by kernel_rfl) (by kernel_rfl) (by kernel_rfl) (by kernel_rfl) rfl (by kernel_rfl) (fun _ _ d _ _ h=>by cases d <;> exact h) ((Fr.refl _ w1).drew) ?_
 apply qg
 refine ⟨fun wf Ff=>?_,?_⟩
 ·have k0:=qb (Ff.cell c0 (by simp))
  have k1:=qb (Ff.cell c1 (by simp))
  have k2:=qb (Ff.cell c2 (by simp))
  have k3:=qb (Ff.cell c3 (by simp))
  simp only [sel]
  repeat (go_big_quiet_step (first | (go_at_call 93;exact Calls.in_ (hh.out _)) | (go_at_call 94;exact Calls.in_ (hd.out _))))
  exact wpQuiet_nil rfl
 refine qx (k:=8) rfl (by kernel_rfl) (fun w5 F5=>?_)
 have F1:=F0.trans (((Fr.refl [] w1).drew).trans F5)
 clear c0 c1 c2 c3 hh hd F0
 go_wp2_with fail
 go_ret
 refine ⟨w5.heap.size,rfl,F1.size,?_,F1.alloc _⟩
 have e:(#[]:Array Value)++(Wc.new c key).cells++#[] = #[.int .i64 key,.int .i64 0,.int .i64 (3+c.t+key / 16),.int .i64 0,.int .i64 0,.int .i64 (3+c.t+4),.int .i64 0]:=by
  unfold Wc.new Wc.cells Zw xm
  rw [show (3+c.t+4:Int)=7+c.t by omega]
  rfl
 unfold Y9 Pb
 rw [e]
 exact Ob.newAt rfl _ _
def lnW (x:Wk):Int:=if x.line=0 then 5 else if x.line=5 then 3 else if x.line=6 then 4 else x.line - 1
structure WkR (x:Wk) (y:Wc):Prop where
 c:x.c.Ok
 kb:0<=x.key/\x.key<=63
 ln:x.line=0\/x.live=true
 key:y.key=x.key
 line:y.line=lnW x
 a0:y.a0=Zw x.c x.key
 a1:x.line=2\/x.line=3->y.a1=x.x/\y.a2=x.x
 hd:x.line=1\/x.line=2\/x.line=3->y.a3=xm x.c
 cur:x.line=5\/x.line=6->y.a3=x.cur
 at_:x.line=0->y.a3=x.at_
 n:x.line=6->y.a4=x.n
theorem WkR.new {c:Cf} (hc:c.Ok) {key:Int} (hk:0<=key/\key<=63):WkR (Wk.new c key) (Wc.new c key) :=
 ⟨hc,hk,.inr rfl,rfl,rfl,rfl,fun k=>by simp [Wk.new] at k,fun _=>rfl,fun k=>by simp [Wk.new] at k,fun k=>by simp [Wk.new] at k,fun k=>by simp [Wk.new] at k⟩
theorem WkR.lines {x:Wk} {y:Wc} (h:WkR x y):x.line=0\/x.line=1\/x.line=2\/x.line=3\/x.line=5\/x.line=6:=by
 rcases h.ln with k | k
 ·exact .inl k
 ·unfold Wk.live at k
  simp only [Bool.or_eq_true,decide_eq_true_eq] at k
  omega
theorem WkR.bd {x:Wk} {y:Wc} (h:WkR x y):0<=y.line/\y.line<=5:=by
 have:=h.lines
 rw [h.line];unfold lnW
 repeat' split
 all_goals omega
theorem WkR.over {x:Wk} {y:Wc} (h:WkR x y):y.line=5↔x.line=0:=by
 have:=h.lines
 rw [h.line];unfold lnW
 repeat' split
 all_goals omega
theorem WkR.looks {x:Wk} {y:Wc} (h:WkR x y) (h0:x.line≠0):y.looks=x.looks:=by
 have ht1:=h.c.t1
 have ht8:=h.c.t8
 have hk:=h.kb
 have hw:wrap64 (Zw x.c x.key)=Zw x.c x.key:=by unfold Zw;exact w64 (by omega) (by omega)
 unfold Wc.looks Wk.looks
 rw [h.line]
 unfold lnW
 rcases h.lines with e | e | e | e | e | e
 ·exact absurd e h0
 ·simp [e,h.a0,hw]
 ·simp [e,(h.a1 (.inl e)).1]
 ·simp [e,(h.a1 (.inr e)).2]
 ·simp [e,h.cur (.inl e)]
 ·simp [e,h.n e]
theorem WkR.step {x:Wk} {y:Wc} (h:WkR x y) (h0:x.line≠0) (v:Int) (hv:x.line=5->atU v=atW v):WkR (x.next v) (y.step v):=by
 have hk:=h.key
 have e0:y.line=lnW x:=h.line
 rcases h.lines with e | e | e | e | e | e
 ·exact absurd e h0
 ·have e1:y.line=0:=by rw [e0];unfold lnW;simp [e]
  have a3:=h.hd (.inl e)
  by_cases q:v=0
  ·have n1:x.next v = { x with x:=0,cur:=xm x.c,line:=5 }:=by unfold Wk.next;simp [e,q,Wk.head]
   have n2:y.step v = { y with line:=3 }:=by unfold Wc.step Wc.beh Wc.behL;simp [e1,q]
   rw [n1,n2]
   exact ⟨h.c,h.kb,.inr rfl,hk,rfl,h.a0,fun k=>by simp at k,fun k=>by simp at k,fun _=>a3,fun k=>by simp at k,fun k=>by simp at k⟩
  ·have n1:x.next v = { x with x:=v,line:=2 }:=by unfold Wk.next;simp [e,q]
   have n2:y.step v = { y with a1:=v,a2:=v,line:=1 }:=by unfold Wc.step Wc.beh Wc.behL;simp [e1,q]
   rw [n1,n2]
   exact ⟨h.c,h.kb,.inr rfl,hk,rfl,h.a0,fun _=>⟨rfl,rfl⟩,fun _=>a3,fun k=>by simp at k,fun k=>by simp at k,fun k=>by simp at k⟩
 ·have e1:y.line=1:=by rw [e0];unfold lnW;simp [e]
  have a3:=h.hd (.inr (.inl e))
  have a1:=h.a1 (.inl e)
  by_cases q:v=0
  ·have n1:x.next v = { x with line:=3 }:=by unfold Wk.next;simp [e,q]
   have n2:y.step v = { y with line:=2 }:=by unfold Wc.step Wc.beh Wc.behL;simp [e1,q]
   rw [n1,n2]
   exact ⟨h.c,h.kb,.inr rfl,hk,rfl,h.a0,fun _=>a1,fun _=>a3,fun k=>by simp at k,fun k=>by simp at k,fun k=>by simp at k⟩
  ·have n1:x.next v = { x with cur:=xm x.c,line:=5 }:=by unfold Wk.next;simp [e,q,Wk.head]
   have n2:y.step v = { y with line:=3 }:=by unfold Wc.step Wc.beh Wc.behL;simp [e1,q]
   rw [n1,n2]
   exact ⟨h.c,h.kb,.inr rfl,hk,rfl,h.a0,fun k=>by simp at k,fun k=>by simp at k,fun _=>a3,fun k=>by simp at k,fun k=>by simp at k⟩
 ·have e1:y.line=2:=by rw [e0];unfold lnW;simp [e]
  have a3:=h.hd (.inr (.inr e))
  have a1:=h.a1 (.inr e)
  by_cases q:v<=x.key
  ·have n1:x.next v = { x with cur:=x.x,line:=5 }:=by unfold Wk.next;simp [e,q]
   have n2:y.step v = { y with a3:=y.a2,line:=3 }:=by unfold Wc.step Wc.beh Wc.behL;simp [e1,q,hk]
   rw [n1,n2]
   exact ⟨h.c,h.kb,.inr rfl,hk,rfl,h.a0,fun k=>by simp at k,fun k=>by simp at k,fun _=>a1.2,fun k=>by simp at k,fun k=>by simp at k⟩
  ·have n1:x.next v = { x with cur:=xm x.c,line:=5 }:=by unfold Wk.next;simp [e,q,Wk.head]
   have n2:y.step v = { y with line:=3 }:=by unfold Wc.step Wc.beh Wc.behL;simp [e1,q,hk]
   rw [n1,n2]
   exact ⟨h.c,h.kb,.inr rfl,hk,rfl,h.a0,fun k=>by simp at k,fun k=>by simp at k,fun _=>a3,fun k=>by simp at k,fun k=>by simp at k⟩
 ·have e1:y.line=3:=by rw [e0];unfold lnW;simp [e]
  have cu:=h.cur (.inl e)
  have hu:=hv e
  by_cases q:atW v=0
  ·have n1:x.next v = { x with n:=0,at_:=x.cur,line:=0 }:=by unfold Wk.next;simp [e,q,Wk.ends]
   have n2:y.step v = { y with line:=5 }:=by unfold Wc.step Wc.beh Wc.behL;simp [e1,hu,q]
   rw [n1,n2]
   exact ⟨h.c,h.kb,.inl rfl,hk,rfl,h.a0,fun k=>by simp at k,fun k=>by simp at k,fun k=>by simp at k,fun _=>cu,fun k=>by simp at k⟩
  ·have n1:x.next v = { x with n:=atW v,line:=6 }:=by unfold Wk.next;simp [e,q]
   have n2:y.step v = { y with a4:=atW v,line:=4 }:=by unfold Wc.step Wc.beh Wc.behL;simp [e1,hu,q]
   rw [n1,n2]
   exact ⟨h.c,h.kb,.inr rfl,hk,rfl,h.a0,fun k=>by simp at k,fun k=>by simp at k,fun _=>cu,fun k=>by simp at k,fun _=>rfl⟩
 ·have e1:y.line=4:=by rw [e0];unfold lnW;simp [e]
  have cu:=h.cur (.inr e)
  have hn:=h.n e
  by_cases q:v<=x.key
  ·have n1:x.next v = { x with cur:=x.n,line:=5 }:=by unfold Wk.next;simp [e,q]
   have q2:¬ x.key<v:=by omega
   have n2:y.step v = { y with a3:=y.a4,line:=3 }:=by unfold Wc.step Wc.beh Wc.behL;simp [e1,q2,hk]
   rw [n1,n2]
   exact ⟨h.c,h.kb,.inr rfl,hk,rfl,h.a0,fun k=>by simp at k,fun k=>by simp at k,fun _=>hn,fun k=>by simp at k,fun k=>by simp at k⟩
  ·have n1:x.next v = { x with at_:=x.cur,line:=0 }:=by unfold Wk.next;simp [e,q,Wk.ends]
   have q2:x.key<v:=by omega
   have n2:y.step v = { y with line:=5 }:=by unfold Wc.step Wc.beh Wc.behL;simp [e1,q2,hk]
   rw [n1,n2]
   exact ⟨h.c,h.kb,.inl rfl,hk,rfl,h.a0,fun k=>by simp at k,fun k=>by simp at k,fun k=>by simp at k,fun _=>cu,fun k=>by simp at k⟩
end Go.Proofs.YtppajakfaomkaaaGreatDoor.Dw
