/- Texts that this proof leans on, one behind the other: Dw1, Dw2, Dw3. -/
import Derived.Test.YtjhefbenmhmbcaaDoorQaa
import Derived.Test.YtjhefbenmhmbcaaDoorQab
import Derived.Test.YtjhefbenmhmbcaaDoorQac
import Derived.Test.YtjhefbenmhmbcaaDoorQal
import Derived.Test.YtjhefbenmhmbcaaDoorQam
import Derived.RegionTactic
set_option linter.unusedVariables false
set_option linter.unusedSimpArgs false
set_option maxRecDepth 100000
set_option maxHeartbeats 12800000
namespace Go.Proofs.YtjhefbenmhmbcaaDoor.Dw
open Go.RowKit Go.Proofs.YtjhefbenmhmbcaaDoor.Ar Go.Proofs.YtjhefbenmhmbcaaDoor.Mx Go.Proofs.YtjhefbenmhmbcaaDoor.Ch
structure Wc where
 key:Int
 line:Int
 a0:Int
 a1:Int
 a2:Int
 a3:Int
 a4:Int
def Wc.cells (y:Wc):Array Value:=#[.int .i64 y.key,.int .i64 y.line,.int .i64 y.a0,.int .i64 y.a1,.int .i64 y.a2,.int .i64 y.a3,.int .i64 y.a4]
def WcAt (w:World) (b:Nat) (T:TypeId) (pre post:Array Value) (y:Wc):Prop:=Pb w b T pre post y.cells
section
variable {w:World} {b o:Nat} {T:TypeId} {pre post:Array Value} {y:Wc}
theorem wc_cells (h:WcAt w b T pre post y) (ho:pre.size=o):w.cell? ⟨b,o,none⟩=some (.int .i64 y.key)∧w.cell? ⟨b,o+1,none⟩=some (.int .i64 y.line)∧w.cell? ⟨b,o+2,none⟩=some (.int .i64 y.a0)∧w.cell? ⟨b,o+2+1,none⟩=some (.int .i64 y.a1)∧w.cell? ⟨b,o+2+2,none⟩=some (.int .i64 y.a2)∧w.cell? ⟨b,o+2+3,none⟩=some (.int .i64 y.a3)∧w.cell? ⟨b,o+2+4,none⟩=some (.int .i64 y.a4) :=
 ⟨h.cell (i:=0) ho rfl,h.cell (i:=1) ho rfl,h.cell (i:=2) ho rfl,h.cell (i:=3) ho rfl,h.cell (i:=4) ho rfl,h.cell (i:=5) ho rfl,h.cell (i:=6) ho rfl⟩
theorem dchunk_any (h:WcAt w b T pre post y) (ho:pre.size=o):Calls Tryd.prog 22 #[.pointer (some ⟨b,o,none⟩)] w fun e w'=>e = .returned (.int .i64 (if y.line=5 then y.a3 else 0))∧w=w':=by
 obtain ⟨c0,c1,c2,c3,c4,c5,c6⟩:=wc_cells h ho
 by_cases e:y.line=5
 ·have q:(y.line != 5)=false:=by simp [e]
  rw [if_pos e]
  rw [e] at c1
  clear e
  go_enter Tryd.func22,Tryd.ntmps22
  go_wp2
  go_ret
  exact ⟨rfl,rfl⟩
 ·have q:(y.line != 5)=true:=by simpa using e
  rw [if_neg e]
  clear e
  go_enter Tryd.func22,Tryd.ntmps22
  go_wp2
  go_ret
  exact ⟨rfl,rfl⟩
theorem dask_any (x:Int) (h:WcAt w b T pre post y) (ho:pre.size=o):Calls Tryd.prog 43 #[.pointer (some ⟨b,o,none⟩),.int .i64 x] w fun e w'=>e = .returned (.int .i64 (if x=0 then 3 else 1))∧WcAt w' b T pre post (if x=0 then y else { y with a1:=x,a2:=x })∧Fr [b] w w':=by
 obtain ⟨c0,c1,c2,c3,c4,c5,c6⟩:=wc_cells h ho
 have z:=h.frozen
 by_cases e:x=0
 ·have q:(x == 0)=true:=by simpa using e
  rw [if_pos e,if_pos e]
  have HH:=Lib.hid h
  clear h e
  go_enter Tryd.func43,Tryd.ntmps43
  go_wp2
  go_ret
  exact ⟨rfl,HH.out,Fr.refl _ _⟩
 ·have q:(x == 0)=false:=by simpa using e
  rw [if_neg e,if_neg e]
  have HH:=Lib.hid h
  clear h e
  go_enter Tryd.func43,Tryd.ntmps43
  go_wp2_with fail
  go_region
  all_goals go_wp2
  all_goals go_ret
  all_goals
   refine ⟨rfl,?_,?_⟩
   ·have k:=Pb.set (Pb.set HH.out ho (i:=3) (by show 3<7;omega) (.int .i64 x)) ho (i:=4) (by show 4<7;omega) (.int .i64 x)
    exact k
   ·first | exact (((Fr.refl [b] w).setCell' (b:=b) _ (by simp)).setCell' (b:=b) _ (by simp)).drew | exact ((((Fr.refl [b] w).drew).setCell' (b:=b) _ (by simp)).setCell' (b:=b) _ (by simp))
theorem daskNext_any (x:Int) (h:WcAt w b T pre post y) (ho:pre.size=o):Calls Tryd.prog 44 #[.pointer (some ⟨b,o,none⟩),.int .i64 x] w fun e w'=>e = .returned (.int .i64 (if x=0 then 5 else 4))∧WcAt w' b T pre post (if x=0 then y else { y with a4:=x })∧Fr [b] w w':=by
 obtain ⟨c0,c1,c2,c3,c4,c5,c6⟩:=wc_cells h ho
 have z:=h.frozen
 by_cases e:x=0
 ·have q:(x == 0)=true:=by simpa using e
  rw [if_pos e,if_pos e]
  have HH:=Lib.hid h
  clear h e
  go_enter Tryd.func44,Tryd.ntmps44
  go_wp2
  go_ret
  exact ⟨rfl,HH.out,Fr.refl _ _⟩
 ·have q:(x == 0)=false:=by simpa using e
  rw [if_neg e,if_neg e]
  have HH:=Lib.hid h
  clear h e
  go_enter Tryd.func44,Tryd.ntmps44
  go_wp2
  go_ret
  exact ⟨rfl,Pb.set HH.out ho (i:=6) (by show 6<7;omega) (.int .i64 x),Fr.setCell (S:=[b]) (b:=b) _ (by simp)⟩
def Wc.beh (y:Wc) (v:Int):Wc :=
 if y.line=0 then (if v=0 then y else { y with a1:=v,a2:=v })
 else if y.line=1 then y
 else if y.line=2 then (if v≤y.key then { y with a3:=y.a2 } else y)
 else if y.line=3 then (if atU v=0 then y else { y with a4:=atU v })
 else (if y.key<v then y else { y with a3:=y.a4 })
def Wc.behL (y:Wc) (v:Int):Int :=
 if y.line=0 then (if v=0 then 3 else 1)
 else if y.line=1 then (if v=0 then 2 else 3)
 else if y.line=2 then 3
 else if y.line=3 then (if atU v=0 then 5 else 4)
 else (if y.key<v then 5 else 3)
def Post1 (w:World) (b:Nat) (T:TypeId) (pre post:Array Value) (y:Wc) (ln:Int) (e:Ending) (w':World):Prop:=e = .returned (.int .i64 ln)∧WcAt w' b T pre post y∧Fr [b] w w'
theorem dbehind_any (v:Int) (hl:0≤y.line∧y.line≤4) (h:WcAt w b T pre post y) (ho:pre.size=o):Calls Tryd.prog 34 #[.pointer (some ⟨b,o,none⟩),.int .i64 v] w (Post1 w b T pre post (y.beh v) (y.behL v)):=by
 obtain ⟨c0,c1,c2,c3,c4,c5,c6⟩:=wc_cells h ho
 have z:=h.frozen
 have HH:=Lib.hid h
 rcases (by omega:y.line=0∨y.line=1∨y.line=2∨y.line=3∨y.line=4) with e | e | e | e | e
 ·have e1:y.beh v=(if v=0 then y else { y with a1:=v,a2:=v }):=by unfold Wc.beh;rw [if_pos e]
  have e2:y.behL v=(if v=0 then 3 else 1):=by unfold Wc.behL;rw [if_pos e]
  have E1:=Lib.hid e1
  have E2:=Lib.hid e2
  rw [e] at c1
  have hk:=dask_any v h ho
  rw [← e1,← e2] at hk
  have HK:=Lib.hid hk
  clear hk
  generalize y.beh v=yb at *
  generalize y.behL v=lb at *
  clear e1 e2
  clear h e hl
  go_enter Tryd.func34,Tryd.ntmps34
  go_wp2_with fail
  refine HK.out.mono ?_;rintro e w1 ⟨rfl,h1,F1⟩
  have HR:=Lib.hid (And.intro h1 F1)
  clear HK h1 F1
  go_wp2_with fail
  go_ret
  exact ⟨rfl,HR.out⟩
 ·have e1:y.beh v=y:=by unfold Wc.beh;rw [if_neg (by omega),if_pos e]
  have e2:y.behL v=(if v=0 then 2 else 3):=by unfold Wc.behL;rw [if_neg (by omega),if_pos e]
  have E1:=Lib.hid e1
  have E2:=Lib.hid e2
  generalize y.beh v=yb at *
  generalize y.behL v=lb at *
  clear e1 e2
  rw [e] at c1
  by_cases e0:v=0
  ·have q:(v != 0)=false:=by simp [e0]
   have H0:=Lib.hid e0
   clear h e hl e0
   go_enter Tryd.func34,Tryd.ntmps34
   go_wp2_with fail
   go_ret
   refine ⟨?_,?_,Fr.refl _ _⟩
   ·rw [E2.out];first | rfl | (rw [if_pos H0.out];done) | (rw [if_neg H0.out];done) | (rw [if_neg (Int.not_le.mpr H0.out)];done) | (rw [if_neg (Int.not_lt.mpr H0.out)];done) | (rw [if_pos H0.out];rfl) | (rw [if_neg H0.out];rfl)
   ·rw [E1.out];first | exact HH.out | (rw [if_pos H0.out];exact HH.out) | (rw [if_neg H0.out];exact HH.out) | (rw [if_neg (Int.not_le.mpr H0.out)];exact HH.out) | (rw [if_neg (Int.not_lt.mpr H0.out)];exact HH.out)
  ·have q:(v != 0)=true:=by simpa using e0
   have H0:=Lib.hid e0
   clear h e hl e0
   go_enter Tryd.func34,Tryd.ntmps34
   go_wp2_with fail
   go_ret
   refine ⟨?_,?_,Fr.refl _ _⟩
   ·rw [E2.out];first | rfl | (rw [if_pos H0.out];done) | (rw [if_neg H0.out];done) | (rw [if_neg (Int.not_le.mpr H0.out)];done) | (rw [if_neg (Int.not_lt.mpr H0.out)];done) | (rw [if_pos H0.out];rfl) | (rw [if_neg H0.out];rfl)
   ·rw [E1.out];first | exact HH.out | (rw [if_pos H0.out];exact HH.out) | (rw [if_neg H0.out];exact HH.out) | (rw [if_neg (Int.not_le.mpr H0.out)];exact HH.out) | (rw [if_neg (Int.not_lt.mpr H0.out)];exact HH.out)
 ·have e1:y.beh v=(if v≤y.key then { y with a3:=y.a2 } else y):=by unfold Wc.beh;rw [if_neg (by omega),if_neg (by omega),if_pos e]
  have e2:y.behL v=3:=by unfold Wc.behL;rw [if_neg (by omega),if_neg (by omega),if_pos e]
  have E1:=Lib.hid e1
  have E2:=Lib.hid e2
  generalize y.beh v=yb at *
  generalize y.behL v=lb at *
  clear e1 e2
  rw [e] at c1
  by_cases e0:v≤y.key
  ·have q:decide (v≤y.key)=true:=by simpa using e0
   have H0:=Lib.hid e0
   clear h e hl e0
   go_enter Tryd.func34,Tryd.ntmps34
   go_wp2_with fail
   go_region
   all_goals go_wp2_with fail
   all_goals go_ret
   all_goals refine ⟨?_,?_,?_⟩
   ·rw [E2.out];first | rfl | (rw [if_pos H0.out];done) | (rw [if_neg H0.out];done) | (rw [if_neg (Int.not_le.mpr H0.out)];done) | (rw [if_neg (Int.not_lt.mpr H0.out)];done) | (rw [if_pos H0.out];rfl) | (rw [if_neg H0.out];rfl)
   ·rw [E1.out];first | (rw [if_pos H0.out];exact Pb.set HH.out ho (i:=5) (by show 5<7;omega) (.int .i64 y.a2)) | (rw [if_neg (Int.not_lt.mpr H0.out)];exact Pb.set HH.out ho (i:=5) (by show 5<7;omega) (.int .i64 y.a2))
   ·first | exact ((Fr.refl [b] w).setCell' (b:=b) _ (by simp)).drew | exact (((Fr.refl [b] w).drewN _).setCell' (b:=b) _ (by simp))
  ·have q:decide (v≤y.key)=false:=by simpa using e0
   have H0:=Lib.hid e0
   clear h e hl e0
   go_enter Tryd.func34,Tryd.ntmps34
   go_wp2_with fail
   go_ret
   refine ⟨?_,?_,Fr.refl _ _⟩
   ·rw [E2.out];first | rfl | (rw [if_pos H0.out];done) | (rw [if_neg H0.out];done) | (rw [if_neg (Int.not_le.mpr H0.out)];done) | (rw [if_neg (Int.not_lt.mpr H0.out)];done) | (rw [if_pos H0.out];rfl) | (rw [if_neg H0.out];rfl)
   ·rw [E1.out];first | exact HH.out | (rw [if_pos H0.out];exact HH.out) | (rw [if_neg H0.out];exact HH.out) | (rw [if_neg (Int.not_le.mpr H0.out)];exact HH.out) | (rw [if_neg (Int.not_lt.mpr H0.out)];exact HH.out)
 ·have e1:y.beh v=(if atU v=0 then y else { y with a4:=atU v }):=by unfold Wc.beh;rw [if_neg (by omega),if_neg (by omega),if_neg (by omega),if_pos e]
  have e2:y.behL v=(if atU v=0 then 5 else 4):=by unfold Wc.behL;rw [if_neg (by omega),if_neg (by omega),if_neg (by omega),if_pos e]
  have E1:=Lib.hid e1
  have E2:=Lib.hid e2
  have hk:=daskNext_any (atU v) h ho
  rw [← e1,← e2] at hk
  have HK:=Lib.hid hk
  clear hk
  generalize y.beh v=yb at *
  generalize y.behL v=lb at *
  clear e1 e2
  rw [e] at c1
  clear h e hl
  go_enter Tryd.func34,Tryd.ntmps34
  go_wp2_with fail
  refine (Ch.at_any _ _).mono ?_;rintro e _ ⟨rfl,rfl⟩
  generalize atU v=u at *
  go_wp2_with fail
  refine HK.out.mono ?_;rintro e w1 ⟨rfl,h1,F1⟩
  have HR:=Lib.hid (And.intro h1 F1)
  clear HK h1 F1
  go_wp2_with fail
  go_ret
  exact ⟨rfl,HR.out⟩
 ·have e1:y.beh v=(if y.key<v then y else { y with a3:=y.a4 }):=by unfold Wc.beh;rw [if_neg (by omega),if_neg (by omega),if_neg (by omega),if_neg (by omega)]
  have e2:y.behL v=(if y.key<v then 5 else 3):=by unfold Wc.behL;rw [if_neg (by omega),if_neg (by omega),if_neg (by omega),if_neg (by omega)]
  have E1:=Lib.hid e1
  have E2:=Lib.hid e2
  generalize y.beh v=yb at *
  generalize y.behL v=lb at *
  clear e1 e2
  rw [e] at c1
  by_cases e0:y.key<v
  ·have q:decide (v>y.key)=true:=by simpa using e0
   have q2:decide (y.key<v)=true:=by simpa using e0
   have H0:=Lib.hid e0
   clear h e hl e0
   go_enter Tryd.func34,Tryd.ntmps34
   go_wp2_with fail
   go_ret
   refine ⟨?_,?_,Fr.refl _ _⟩
   ·rw [E2.out];first | rfl | (rw [if_pos H0.out];done) | (rw [if_neg H0.out];done) | (rw [if_neg (Int.not_le.mpr H0.out)];done) | (rw [if_neg (Int.not_lt.mpr H0.out)];done) | (rw [if_pos H0.out];rfl) | (rw [if_neg H0.out];rfl)
   ·rw [E1.out];first | exact HH.out | (rw [if_pos H0.out];exact HH.out) | (rw [if_neg H0.out];exact HH.out) | (rw [if_neg (Int.not_le.mpr H0.out)];exact HH.out) | (rw [if_neg (Int.not_lt.mpr H0.out)];exact HH.out)
  ·have q:decide (v>y.key)=false:=by simpa using e0
   have q2:decide (y.key<v)=false:=by simpa using e0
   have H0:=Lib.hid e0
   clear h e hl e0
   go_enter Tryd.func34,Tryd.ntmps34
   go_wp2_with fail
   go_region
   all_goals go_wp2_with fail
   all_goals go_ret
   all_goals refine ⟨?_,?_,?_⟩
   ·rw [E2.out];first | rfl | (rw [if_pos H0.out];done) | (rw [if_neg H0.out];done) | (rw [if_neg (Int.not_le.mpr H0.out)];done) | (rw [if_neg (Int.not_lt.mpr H0.out)];done) | (rw [if_neg (Int.not_lt.mpr H0.out)];rfl) | (rw [if_pos H0.out];rfl) | (rw [if_neg H0.out];rfl)
   ·rw [E1.out];first | (rw [if_pos H0.out];exact Pb.set HH.out ho (i:=5) (by show 5<7;omega) (.int .i64 y.a4)) | (rw [if_neg (Int.not_lt.mpr H0.out)];exact Pb.set HH.out ho (i:=5) (by show 5<7;omega) (.int .i64 y.a4))
   ·first | exact ((Fr.refl [b] w).setCell' (b:=b) _ (by simp)).drew | exact (((Fr.refl [b] w).drewN _).setCell' (b:=b) _ (by simp))
end
def Fl (w:World):Prop:=w.cell? ⟨0,0,none⟩=some (.int .i64 0)∧w.cell? ⟨0,1,none⟩=some (.int .i64 6)∧w.cell? ⟨0,2,none⟩=some (.int .i64 0)∧w.cell? ⟨0,3,none⟩=some (.int .i64 2)∧w.cell? ⟨0,4,none⟩=some (.int .i64 0)
theorem Fl.kept {S:List Nat} {w w':World} (t:Fl w) (f:Fr S w w') (h:0∉S):Fl w':=by
 obtain ⟨t0,t1,t2,t3,t4⟩:=t
 exact ⟨f.cell t0 h,f.cell t1 h,f.cell t2 h,f.cell t3 h,f.cell t4 h⟩
theorem Fl.up {w w':World} (t:Fl w) (f:Fr [] w w'):Fl w':=t.kept f (by simp)
def Wc.looks (y:Wc):Int:=if y.line=0 then wrap64 y.a0 else if y.line=1 then wrap64 (y.a1+6) else if y.line=2 then wrap64 y.a2 else if y.line=3 then wrap64 (y.a3+2) else wrap64 y.a4
def Wc.step (y:Wc) (v:Int):Wc:={ y.beh v with line:=y.behL v }
def Post2 (w:World) (b p q:Nat) (T:TypeId) (pre post:Array Value) (y:Wc) (s:St) (e:Ending) (w':World):Prop:=e = .returned (.bool (decide (y.line=5)))∧WcAt w' b T pre post y∧Ar w' p q s∧Fr [b,p,q] w w'
theorem beh_cells (y:Wc) (v:Int) (l:Int):(y.beh v).cells.setIfInBounds 1 (.int .i64 l)=({ y.beh v with line:=l }:Wc).cells:=rfl
section
variable {w:World} {b o p q:Nat} {T:TypeId} {pre post:Array Value} {y:Wc} {s:St}
theorem dstep0 (hl:y.line=0) (h:WcAt w b T pre post y) (ho:pre.size=o) (hf:Fl w) (hA:Ar w p q s) (hne:b≠p∧b≠q) (hg:0≠p∧0≠q) :
  Calls Tryd.prog 20 #[.pointer (some ⟨b,o,none⟩),.pointer (some ⟨p,0,none⟩)] w (Post2 w b p q T pre post (y.step (peek s.l y.looks)) (s.load y.looks)):=by
 obtain ⟨c0,c1,c2,c3,c4,c5,c6⟩:=wc_cells h ho
 have el:y.looks=wrap64 y.a0:=by unfold Wc.looks;rw [if_pos hl]
 rw [hl] at c1
 rw [el]
 obtain ⟨hbp,hbq⟩:=hne
 obtain ⟨hgp,hgq⟩:=hg
 have HY:=Lib.hid (And.intro hl ho)
 clear hl ho el
 obtain ⟨t0,t1,t2,t3,t4⟩:=hf
 have q0:((0:Int) != 5)=true:=by decide
 go_enter Tryd.func20,Tryd.ntmps20
 go_wp2_with fail
 refine wp_region_free (by kernel_rfl) ?_
 refine take_move 0 rfl (by kernel_rfl) (by kernel_rfl) (by kernel_rfl) rfl (fun _ _ d _ _ h=>by cases d <;> exact h) ?_
 go_frame
 refine any_envL [p,q] w #[true,true,true,true,true,true,true,true,true,true,true,true,true,true,true,true,true,true,true,true,false,false,false,false] 19 4 rfl ?_
 refine envT_pass [false,true,true,true,true,true,true,true,true,true,true,true,true,true,true,true,true,true,true,false,false,false,false,false] 1 (n:=38) (listed':=#[true,true,true,true,true,true,true,true,true,true,true,true,true,true,true,true,true,true,true,false,false,false,false,false]) rfl (by kernel_rfl) (by kernel_rfl) (by kernel_rfl) (by kernel_rfl) (by kernel_rfl) rfl (by kernel_rfl) (fun _ _ d _ _ h=>by cases d <;> exact h) ((Fr.refl _ w).drew) ?_
 apply Exists.intro
 refine ⟨fun wf Ff=>?_,?_⟩
 ·have d1:=Ff.cell c1 (by simp;exact ⟨hbp,hbq⟩)
  have d2:=Ff.cell c2 (by simp;exact ⟨hbp,hbq⟩)
  have d3:=Ff.cell t0 (by simp;exact ⟨hgp,hgq⟩)
  have k1:=In.cell d1
  have k2:=In.cell d2
  have k3:=In.cell d3
  clear d1 d2 d3
  simp only [sel]
  repeat (go_big_quiet_step (fail))
  exact wpQuiet_nil rfl
 refine loq 19 (fun w3 F3=>?_)
 have D3:=(Fr.refl [] w).drew.trans F3
 have A3:=hA.kept D3
 have h3:WcAt w3 b T pre post y:=h.up D3
 clear hA h F3 c0 c1 c2 c3 c4 c5 c6 t0 t1 t2 t3 t4
 go_wp2_with fail
 refine (Ar.load_any _ p q s _ A3).mono ?_;rintro e w4 ⟨rfl,A4,F4⟩
 generalize wrap64 y.a0=lk at *
 go_wp2_with fail
 refine nx_normal ⟨(D3.mono).trans F4,?_⟩
 refine envL_tail (k:=20) rfl (by kernel_rfl) (fun w5 F5=>?_)
 have A5:=A4.kept F5
 have h5:WcAt w5 b T pre post y:=(h3.kept F4 (by simp;exact ⟨hbp,hbq⟩)).up F5
 have D5:Fr [b,p,q] w w5:=((D3.mono).trans (F4.mono)).then F5
 have HB:=Lib.hid (dbehind_any (w:=w5) (peek s.l lk) (by have:=HY.out.1;omega) h5 HY.out.2)
 clear A3 A4 h3 F4 F5 D3 h5
 go_wp2_with fail
 refine HB.out.mono ?_;rintro e w7 ⟨rfl,h7,F7⟩
 have A7:=A5.kept F7 (by simp;exact hbp.symm) (by simp;exact hbq.symm)
 have D7:Fr [b,p,q] w w7:=D5.trans (F7.mono)
 have HP:=Lib.hid (And.intro h7 (And.intro A7 D7))
 obtain ⟨-,e1,-⟩:=wc_cells h7 HY.out.2
 have z7:=h7.frozen
 clear HB A5 D5 F7 D7 h7 A7
 generalize hlb:y.behL (peek s.l lk)=lb at *
 go_wp2_with fail
 go_ret
 obtain ⟨h7,A7,D7⟩:=HP.out
 refine ⟨?_,?_,?_,?_⟩
 ·show Ending.returned (.bool (lb == 5)) = .returned (.bool (decide (y.behL (peek s.l lk)=5)))
  rw [hlb];congr
 ·have k:=Pb.set h7 HY.out.2 (i:=1) (by show 1<7;omega) (.int .i64 lb)
  rw [beh_cells,← hlb] at k;rw [← hlb];exact k
 ·exact A7.kept (Fr.setCell (S:=[b]) (b:=b) _ (by simp)) (by simp;exact hbp.symm) (by simp;exact hbq.symm)
 ·exact D7.setCell' (b:=b) _ (by simp)
theorem dstep1 (hl:y.line=1) (h:WcAt w b T pre post y) (ho:pre.size=o) (hf:Fl w) (hA:Ar w p q s) (hne:b≠p∧b≠q) (hg:0≠p∧0≠q) :
  Calls Tryd.prog 20 #[.pointer (some ⟨b,o,none⟩),.pointer (some ⟨p,0,none⟩)] w (Post2 w b p q T pre post (y.step (peek s.l y.looks)) (s.load y.looks)):=by
 obtain ⟨c0,c1,c2,c3,c4,c5,c6⟩:=wc_cells h ho
 have el:y.looks=wrap64 (y.a1+6):=by unfold Wc.looks;rw [if_neg (by omega),if_pos hl]
 rw [hl] at c1
 rw [el]
 obtain ⟨hbp,hbq⟩:=hne
 obtain ⟨hgp,hgq⟩:=hg
 have HY:=Lib.hid (And.intro hl ho)
 clear hl ho el
 obtain ⟨t0,t1,t2,t3,t4⟩:=hf
 have q0:((1:Int) != 5)=true:=by decide
 go_enter Tryd.func20,Tryd.ntmps20
 go_wp2_with fail
 refine wp_region_free (by kernel_rfl) ?_
 refine take_move 0 rfl (by kernel_rfl) (by kernel_rfl) (by kernel_rfl) rfl (fun _ _ d _ _ h=>by cases d <;> exact h) ?_
 go_frame
 refine any_envL [p,q] w #[true,true,true,true,true,true,true,true,true,true,true,true,true,true,true,true,true,true,true,true,false,false,false,false] 19 4 rfl ?_
 refine envT_pass [false,true,true,true,true,true,true,true,true,true,true,true,true,true,true,true,true,true,true,false,false,false,false,false] 1 (n:=38) (listed':=#[true,true,true,true,true,true,true,true,true,true,true,true,true,true,true,true,true,true,true,false,false,false,false,false]) rfl (by kernel_rfl) (by kernel_rfl) (by kernel_rfl) (by kernel_rfl) (by kernel_rfl) rfl (by kernel_rfl) (fun _ _ d _ _ h=>by cases d <;> exact h) ((Fr.refl _ w).drew) ?_
 apply Exists.intro
 refine ⟨fun wf Ff=>?_,?_⟩
 ·have d1:=Ff.cell c1 (by simp;exact ⟨hbp,hbq⟩)
  have d2:=Ff.cell c3 (by simp;exact ⟨hbp,hbq⟩)
  have d3:=Ff.cell t1 (by simp;exact ⟨hgp,hgq⟩)
  have k1:=In.cell d1
  have k2:=In.cell d2
  have k3:=In.cell d3
  clear d1 d2 d3
  simp only [sel]
  repeat (go_big_quiet_step (fail))
  exact wpQuiet_nil rfl
 refine loq 19 (fun w3 F3=>?_)
 have D3:=(Fr.refl [] w).drew.trans F3
 have A3:=hA.kept D3
 have h3:WcAt w3 b T pre post y:=h.up D3
 clear hA h F3 c0 c1 c2 c3 c4 c5 c6 t0 t1 t2 t3 t4
 go_wp2_with fail
 refine (Ar.load_any _ p q s _ A3).mono ?_;rintro e w4 ⟨rfl,A4,F4⟩
 generalize wrap64 (y.a1+6)=lk at *
 go_wp2_with fail
 refine nx_normal ⟨(D3.mono).trans F4,?_⟩
 refine envL_tail (k:=20) rfl (by kernel_rfl) (fun w5 F5=>?_)
 have A5:=A4.kept F5
 have h5:WcAt w5 b T pre post y:=(h3.kept F4 (by simp;exact ⟨hbp,hbq⟩)).up F5
 have D5:Fr [b,p,q] w w5:=((D3.mono).trans (F4.mono)).then F5
 have HB:=Lib.hid (dbehind_any (w:=w5) (peek s.l lk) (by have:=HY.out.1;omega) h5 HY.out.2)
 clear A3 A4 h3 F4 F5 D3 h5
 go_wp2_with fail
 refine HB.out.mono ?_;rintro e w7 ⟨rfl,h7,F7⟩
 have A7:=A5.kept F7 (by simp;exact hbp.symm) (by simp;exact hbq.symm)
 have D7:Fr [b,p,q] w w7:=D5.trans (F7.mono)
 have HP:=Lib.hid (And.intro h7 (And.intro A7 D7))
 obtain ⟨-,e1,-⟩:=wc_cells h7 HY.out.2
 have z7:=h7.frozen
 clear HB A5 D5 F7 D7 h7 A7
 generalize hlb:y.behL (peek s.l lk)=lb at *
 go_wp2_with fail
 go_ret
 obtain ⟨h7,A7,D7⟩:=HP.out
 refine ⟨?_,?_,?_,?_⟩
 ·show Ending.returned (.bool (lb == 5)) = .returned (.bool (decide (y.behL (peek s.l lk)=5)))
  rw [hlb];congr
 ·have k:=Pb.set h7 HY.out.2 (i:=1) (by show 1<7;omega) (.int .i64 lb)
  rw [beh_cells,← hlb] at k;rw [← hlb];exact k
 ·exact A7.kept (Fr.setCell (S:=[b]) (b:=b) _ (by simp)) (by simp;exact hbp.symm) (by simp;exact hbq.symm)
 ·exact D7.setCell' (b:=b) _ (by simp)
theorem dstep2 (hl:y.line=2) (h:WcAt w b T pre post y) (ho:pre.size=o) (hf:Fl w) (hA:Ar w p q s) (hne:b≠p∧b≠q) (hg:0≠p∧0≠q) :
  Calls Tryd.prog 20 #[.pointer (some ⟨b,o,none⟩),.pointer (some ⟨p,0,none⟩)] w (Post2 w b p q T pre post (y.step (peek s.l y.looks)) (s.load y.looks)):=by
 obtain ⟨c0,c1,c2,c3,c4,c5,c6⟩:=wc_cells h ho
 have el:y.looks=wrap64 y.a2:=by unfold Wc.looks;rw [if_neg (by omega),if_neg (by omega),if_pos hl]
 rw [hl] at c1
 rw [el]
 obtain ⟨hbp,hbq⟩:=hne
 obtain ⟨hgp,hgq⟩:=hg
 have HY:=Lib.hid (And.intro hl ho)
 clear hl ho el
 obtain ⟨t0,t1,t2,t3,t4⟩:=hf
 have q0:((2:Int) != 5)=true:=by decide
 go_enter Tryd.func20,Tryd.ntmps20
 go_wp2_with fail
 refine wp_region_free (by kernel_rfl) ?_
 refine take_move 0 rfl (by kernel_rfl) (by kernel_rfl) (by kernel_rfl) rfl (fun _ _ d _ _ h=>by cases d <;> exact h) ?_
 go_frame
 refine any_envL [p,q] w #[true,true,true,true,true,true,true,true,true,true,true,true,true,true,true,true,true,true,true,true,false,false,false,false] 19 4 rfl ?_
 refine envT_pass [false,true,true,true,true,true,true,true,true,true,true,true,true,true,true,true,true,true,true,false,false,false,false,false] 1 (n:=38) (listed':=#[true,true,true,true,true,true,true,true,true,true,true,true,true,true,true,true,true,true,true,false,false,false,false,false]) rfl (by kernel_rfl) (by kernel_rfl) (by kernel_rfl) (by kernel_rfl) (by kernel_rfl) rfl (by kernel_rfl) (fun _ _ d _ _ h=>by cases d <;> exact h) ((Fr.refl _ w).drew) ?_
 apply Exists.intro
 refine ⟨fun wf Ff=>?_,?_⟩
 ·have d1:=Ff.cell c1 (by simp;exact ⟨hbp,hbq⟩)
  have d2:=Ff.cell c4 (by simp;exact ⟨hbp,hbq⟩)
  have d3:=Ff.cell t2 (by simp;exact ⟨hgp,hgq⟩)
  have k1:=In.cell d1
  have k2:=In.cell d2
  have k3:=In.cell d3
  clear d1 d2 d3
  simp only [sel]
  repeat (go_big_quiet_step (fail))
  exact wpQuiet_nil rfl
 refine loq 19 (fun w3 F3=>?_)
 have D3:=(Fr.refl [] w).drew.trans F3
 have A3:=hA.kept D3
 have h3:WcAt w3 b T pre post y:=h.up D3
 clear hA h F3 c0 c1 c2 c3 c4 c5 c6 t0 t1 t2 t3 t4
 go_wp2_with fail
 refine (Ar.load_any _ p q s _ A3).mono ?_;rintro e w4 ⟨rfl,A4,F4⟩
 generalize wrap64 y.a2=lk at *
 go_wp2_with fail
 refine nx_normal ⟨(D3.mono).trans F4,?_⟩
 refine envL_tail (k:=20) rfl (by kernel_rfl) (fun w5 F5=>?_)
 have A5:=A4.kept F5
 have h5:WcAt w5 b T pre post y:=(h3.kept F4 (by simp;exact ⟨hbp,hbq⟩)).up F5
 have D5:Fr [b,p,q] w w5:=((D3.mono).trans (F4.mono)).then F5
 have HB:=Lib.hid (dbehind_any (w:=w5) (peek s.l lk) (by have:=HY.out.1;omega) h5 HY.out.2)
 clear A3 A4 h3 F4 F5 D3 h5
 go_wp2_with fail
 refine HB.out.mono ?_;rintro e w7 ⟨rfl,h7,F7⟩
 have A7:=A5.kept F7 (by simp;exact hbp.symm) (by simp;exact hbq.symm)
 have D7:Fr [b,p,q] w w7:=D5.trans (F7.mono)
 have HP:=Lib.hid (And.intro h7 (And.intro A7 D7))
 obtain ⟨-,e1,-⟩:=wc_cells h7 HY.out.2
 have z7:=h7.frozen
 clear HB A5 D5 F7 D7 h7 A7
 generalize hlb:y.behL (peek s.l lk)=lb at *
 go_wp2_with fail
 go_ret
 obtain ⟨h7,A7,D7⟩:=HP.out
 refine ⟨?_,?_,?_,?_⟩
 ·show Ending.returned (.bool (lb == 5)) = .returned (.bool (decide (y.behL (peek s.l lk)=5)))
  rw [hlb];congr
 ·have k:=Pb.set h7 HY.out.2 (i:=1) (by show 1<7;omega) (.int .i64 lb)
  rw [beh_cells,← hlb] at k;rw [← hlb];exact k
 ·exact A7.kept (Fr.setCell (S:=[b]) (b:=b) _ (by simp)) (by simp;exact hbp.symm) (by simp;exact hbq.symm)
 ·exact D7.setCell' (b:=b) _ (by simp)
theorem dstep3 (hl:y.line=3) (h:WcAt w b T pre post y) (ho:pre.size=o) (hf:Fl w) (hA:Ar w p q s) (hne:b≠p∧b≠q) (hg:0≠p∧0≠q) :
  Calls Tryd.prog 20 #[.pointer (some ⟨b,o,none⟩),.pointer (some ⟨p,0,none⟩)] w (Post2 w b p q T pre post (y.step (peek s.l y.looks)) (s.load y.looks)):=by
 obtain ⟨c0,c1,c2,c3,c4,c5,c6⟩:=wc_cells h ho
 have el:y.looks=wrap64 (y.a3+2):=by unfold Wc.looks;rw [if_neg (by omega),if_neg (by omega),if_neg (by omega),if_pos hl]
 rw [hl] at c1
 rw [el]
 obtain ⟨hbp,hbq⟩:=hne
 obtain ⟨hgp,hgq⟩:=hg
 have HY:=Lib.hid (And.intro hl ho)
 clear hl ho el
 obtain ⟨t0,t1,t2,t3,t4⟩:=hf
 have q0:((3:Int) != 5)=true:=by decide
 go_enter Tryd.func20,Tryd.ntmps20
 go_wp2_with fail
 refine wp_region_free (by kernel_rfl) ?_
 refine take_move 0 rfl (by kernel_rfl) (by kernel_rfl) (by kernel_rfl) rfl (fun _ _ d _ _ h=>by cases d <;> exact h) ?_
 go_frame
 refine any_envL [p,q] w #[true,true,true,true,true,true,true,true,true,true,true,true,true,true,true,true,true,true,true,true,false,false,false,false] 19 4 rfl ?_
 refine envT_pass [false,true,true,true,true,true,true,true,true,true,true,true,true,true,true,true,true,true,true,false,false,false,false,false] 1 (n:=38) (listed':=#[true,true,true,true,true,true,true,true,true,true,true,true,true,true,true,true,true,true,true,false,false,false,false,false]) rfl (by kernel_rfl) (by kernel_rfl) (by kernel_rfl) (by kernel_rfl) (by kernel_rfl) rfl (by kernel_rfl) (fun _ _ d _ _ h=>by cases d <;> exact h) ((Fr.refl _ w).drew) ?_
 apply Exists.intro
 refine ⟨fun wf Ff=>?_,?_⟩
 ·have d1:=Ff.cell c1 (by simp;exact ⟨hbp,hbq⟩)
  have d2:=Ff.cell c5 (by simp;exact ⟨hbp,hbq⟩)
  have d3:=Ff.cell t3 (by simp;exact ⟨hgp,hgq⟩)
  have k1:=In.cell d1
  have k2:=In.cell d2
  have k3:=In.cell d3
  clear d1 d2 d3
  simp only [sel]
  repeat (go_big_quiet_step (fail))
  exact wpQuiet_nil rfl
 refine loq 19 (fun w3 F3=>?_)
 have D3:=(Fr.refl [] w).drew.trans F3
 have A3:=hA.kept D3
 have h3:WcAt w3 b T pre post y:=h.up D3
 clear hA h F3 c0 c1 c2 c3 c4 c5 c6 t0 t1 t2 t3 t4
 go_wp2_with fail
 refine (Ar.load_any _ p q s _ A3).mono ?_;rintro e w4 ⟨rfl,A4,F4⟩
 generalize wrap64 (y.a3+2)=lk at *
 go_wp2_with fail
 refine nx_normal ⟨(D3.mono).trans F4,?_⟩
 refine envL_tail (k:=20) rfl (by kernel_rfl) (fun w5 F5=>?_)
 have A5:=A4.kept F5
 have h5:WcAt w5 b T pre post y:=(h3.kept F4 (by simp;exact ⟨hbp,hbq⟩)).up F5
 have D5:Fr [b,p,q] w w5:=((D3.mono).trans (F4.mono)).then F5
 have HB:=Lib.hid (dbehind_any (w:=w5) (peek s.l lk) (by have:=HY.out.1;omega) h5 HY.out.2)
 clear A3 A4 h3 F4 F5 D3 h5
 go_wp2_with fail
 refine HB.out.mono ?_;rintro e w7 ⟨rfl,h7,F7⟩
 have A7:=A5.kept F7 (by simp;exact hbp.symm) (by simp;exact hbq.symm)
 have D7:Fr [b,p,q] w w7:=D5.trans (F7.mono)
 have HP:=Lib.hid (And.intro h7 (And.intro A7 D7))
 obtain ⟨-,e1,-⟩:=wc_cells h7 HY.out.2
 have z7:=h7.frozen
 clear HB A5 D5 F7 D7 h7 A7
 generalize hlb:y.behL (peek s.l lk)=lb at *
 go_wp2_with fail
 go_ret
 obtain ⟨h7,A7,D7⟩:=HP.out
 refine ⟨?_,?_,?_,?_⟩
 ·show Ending.returned (.bool (lb == 5)) = .returned (.bool (decide (y.behL (peek s.l lk)=5)))
  rw [hlb];congr
 ·have k:=Pb.set h7 HY.out.2 (i:=1) (by show 1<7;omega) (.int .i64 lb)
  rw [beh_cells,← hlb] at k;rw [← hlb];exact k
 ·exact A7.kept (Fr.setCell (S:=[b]) (b:=b) _ (by simp)) (by simp;exact hbp.symm) (by simp;exact hbq.symm)
 ·exact D7.setCell' (b:=b) _ (by simp)
theorem dstep4 (hl:y.line=4) (h:WcAt w b T pre post y) (ho:pre.size=o) (hf:Fl w) (hA:Ar w p q s) (hne:b≠p∧b≠q) (hg:0≠p∧0≠q) :
  Calls Tryd.prog 20 #[.pointer (some ⟨b,o,none⟩),.pointer (some ⟨p,0,none⟩)] w (Post2 w b p q T pre post (y.step (peek s.l y.looks)) (s.load y.looks)):=by
 obtain ⟨c0,c1,c2,c3,c4,c5,c6⟩:=wc_cells h ho
 have el:y.looks=wrap64 y.a4:=by unfold Wc.looks;rw [if_neg (by omega),if_neg (by omega),if_neg (by omega),if_neg (by omega)]
 rw [hl] at c1
 rw [el]
 obtain ⟨hbp,hbq⟩:=hne
 obtain ⟨hgp,hgq⟩:=hg
 have HY:=Lib.hid (And.intro hl ho)
 clear hl ho el
 obtain ⟨t0,t1,t2,t3,t4⟩:=hf
 have q0:((4:Int) != 5)=true:=by decide
 go_enter Tryd.func20,Tryd.ntmps20
 go_wp2_with fail
 refine wp_region_free (by kernel_rfl) ?_
 refine take_move 0 rfl (by kernel_rfl) (by kernel_rfl) (by kernel_rfl) rfl (fun _ _ d _ _ h=>by cases d <;> exact h) ?_
 go_frame
 refine any_envL [p,q] w #[true,true,true,true,true,true,true,true,true,true,true,true,true,true,true,true,true,true,true,true,false,false,false,false] 19 4 rfl ?_
 refine envT_pass [false,true,true,true,true,true,true,true,true,true,true,true,true,true,true,true,true,true,true,false,false,false,false,false] 1 (n:=38) (listed':=#[true,true,true,true,true,true,true,true,true,true,true,true,true,true,true,true,true,true,true,false,false,false,false,false]) rfl (by kernel_rfl) (by kernel_rfl) (by kernel_rfl) (by kernel_rfl) (by kernel_rfl) rfl (by kernel_rfl) (fun _ _ d _ _ h=>by cases d <;> exact h) ((Fr.refl _ w).drew) ?_
 apply Exists.intro
 refine ⟨fun wf Ff=>?_,?_⟩
 ·have d1:=Ff.cell c1 (by simp;exact ⟨hbp,hbq⟩)
  have d2:=Ff.cell c6 (by simp;exact ⟨hbp,hbq⟩)
  have d3:=Ff.cell t4 (by simp;exact ⟨hgp,hgq⟩)
  have k1:=In.cell d1
  have k2:=In.cell d2
  have k3:=In.cell d3
  clear d1 d2 d3
  simp only [sel]
  repeat (go_big_quiet_step (fail))
  exact wpQuiet_nil rfl
 refine loq 19 (fun w3 F3=>?_)
 have D3:=(Fr.refl [] w).drew.trans F3
 have A3:=hA.kept D3
 have h3:WcAt w3 b T pre post y:=h.up D3
 clear hA h F3 c0 c1 c2 c3 c4 c5 c6 t0 t1 t2 t3 t4
 go_wp2_with fail
 refine (Ar.load_any _ p q s _ A3).mono ?_;rintro e w4 ⟨rfl,A4,F4⟩
 generalize wrap64 y.a4=lk at *
 go_wp2_with fail
 refine nx_normal ⟨(D3.mono).trans F4,?_⟩
 refine envL_tail (k:=20) rfl (by kernel_rfl) (fun w5 F5=>?_)
 have A5:=A4.kept F5
 have h5:WcAt w5 b T pre post y:=(h3.kept F4 (by simp;exact ⟨hbp,hbq⟩)).up F5
 have D5:Fr [b,p,q] w w5:=((D3.mono).trans (F4.mono)).then F5
 have HB:=Lib.hid (dbehind_any (w:=w5) (peek s.l lk) (by have:=HY.out.1;omega) h5 HY.out.2)
 clear A3 A4 h3 F4 F5 D3 h5
 go_wp2_with fail
 refine HB.out.mono ?_;rintro e w7 ⟨rfl,h7,F7⟩
 have A7:=A5.kept F7 (by simp;exact hbp.symm) (by simp;exact hbq.symm)
 have D7:Fr [b,p,q] w w7:=D5.trans (F7.mono)
 have HP:=Lib.hid (And.intro h7 (And.intro A7 D7))
 obtain ⟨-,e1,-⟩:=wc_cells h7 HY.out.2
 have z7:=h7.frozen
 clear HB A5 D5 F7 D7 h7 A7
 generalize hlb:y.behL (peek s.l lk)=lb at *
 go_wp2_with fail
 go_ret
 obtain ⟨h7,A7,D7⟩:=HP.out
 refine ⟨?_,?_,?_,?_⟩
 ·show Ending.returned (.bool (lb == 5)) = .returned (.bool (decide (y.behL (peek s.l lk)=5)))
  rw [hlb];congr
 ·have k:=Pb.set h7 HY.out.2 (i:=1) (by show 1<7;omega) (.int .i64 lb)
  rw [beh_cells,← hlb] at k;rw [← hlb];exact k
 ·exact A7.kept (Fr.setCell (S:=[b]) (b:=b) _ (by simp)) (by simp;exact hbp.symm) (by simp;exact hbq.symm)
 ·exact D7.setCell' (b:=b) _ (by simp)
theorem dstep_any (hl:0≤y.line∧y.line≤5) (h:WcAt w b T pre post y) (ho:pre.size=o) (hf:Fl w) (hA:Ar w p q s) (hne:b≠p∧b≠q) (hg:0≠p∧0≠q) :
  Calls Tryd.prog 20 #[.pointer (some ⟨b,o,none⟩),.pointer (some ⟨p,0,none⟩)] w (Post2 w b p q T pre post (if y.line=5 then y else y.step (peek s.l y.looks)) (if y.line=5 then s else s.load y.looks)):=by
 by_cases e5:y.line=5
 ·rw [if_pos e5,if_pos e5]
  obtain ⟨c0,c1,c2,c3,c4,c5,c6⟩:=wc_cells h ho
  have HS:=Lib.hid (And.intro h (And.intro hA e5))
  rw [e5] at c1
  clear h hA hl e5
  go_enter Tryd.func20,Tryd.ntmps20
  go_wp2
  go_ret
  exact ⟨by rw [decide_eq_true HS.out.2.2];rfl,HS.out.1,HS.out.2.1,Fr.refl _ _⟩
 ·rw [if_neg e5,if_neg e5]
  rcases (by omega:y.line=0∨y.line=1∨y.line=2∨y.line=3∨y.line=4) with e | e | e | e | e
  ·exact dstep0 e h ho hf hA hne hg
  ·exact dstep1 e h ho hf hA hne hg
  ·exact dstep2 e h ho hf hA hne hg
  ·exact dstep3 e h ho hf hA hne hg
  ·exact dstep4 e h ho hf hA hne hg
end
def Wc.new (c:Cf) (key:Int):Wc:=⟨key,0,hintP c key,0,0,headP c,0⟩
theorem dnew_any (c:Cf) (hc:c.Ok) (key:Int) (hk:0≤key∧key≤63) (w:World):Calls Tryd.prog 19 #[c.val,.int .i64 key] w fun e w'=>∃ b,e = .returned (.pointer (some ⟨b,0,none⟩))∧w.heap.size≤b∧WcAt w' b 57 #[] #[] (Wc.new c key)∧Fr [] w w':=by
 unfold Cf.val
 obtain ⟨c0,c1,c2,c3⟩:=Pl.cells4 (Go.heap_alloc_new w (.cells #[.int .i64 c.t,.int .i64 c.c,.int .i64 c.wd,.int .i64 c.v] 34))
 have F0:=(Fr.refl [] w).alloc (.cells #[.int .i64 c.t,.int .i64 c.c,.int .i64 c.wd,.int .i64 c.v] 34)
 have hc1:=hc.t1
 have hc8:=hc.t8
 have HC:=Lib.hid (And.intro hc hk)
 have hh:=Lib.hid (fun w=>Pl.hint_any c.t c.c c.wd c.v key hc1 hc8 hk.1 hk.2 w)
 have hd:=Lib.hid (fun w=>Pl.head_any c.t c.c c.wd c.v hc1 hc8 w)
 clear hc hk hc1 hc8
 go_enter Tryd.func19,Tryd.ntmps19
 go_wp2_with fail
 generalize hw1:(w.alloc (.cells #[.int .i64 c.t,.int .i64 c.c,.int .i64 c.wd,.int .i64 c.v] 34))=w1 at *
 refine wp_region_free (by kernel_rfl) ?_
 refine any_envL [] w1 #[true,true,true,true,true,true,true,true,false,false] 8 2 rfl ?_
 refine envT_pass [true,true,true,true,true,true,true,true,false,false] 0 (n:=14) (listed':=#[true,true,true,true,true,true,true,true,false,false]) rfl (by kernel_rfl) (by kernel_rfl) (by kernel_rfl) (by kernel_rfl) (by kernel_rfl) rfl (by kernel_rfl) (fun _ _ d _ _ h=>by cases d <;> exact h) ((Fr.refl _ w1).drew) ?_
 apply Exists.intro
 refine ⟨fun wf Ff=>?_,?_⟩
 ·have k0:=In.cell (Ff.cell c0 (by simp))
  have k1:=In.cell (Ff.cell c1 (by simp))
  have k2:=In.cell (Ff.cell c2 (by simp))
  have k3:=In.cell (Ff.cell c3 (by simp))
  simp only [sel]
  repeat (go_big_quiet_step (first | (go_at_call 33;exact Calls.in_ (hh.out _)) | (go_at_call 30;exact Calls.in_ (hd.out _))))
  exact wpQuiet_nil rfl
 refine envL_tail (k:=8) rfl (by kernel_rfl) (fun w5 F5=>?_)
 have F1:=F0.trans (((Fr.refl [] w1).drew).trans F5)
 clear c0 c1 c2 c3 hh hd F0
 go_wp2_with fail
 go_ret
 refine ⟨w5.heap.size,rfl,F1.size,?_,F1.alloc _⟩
 have e:(#[]:Array Value)++(Wc.new c key).cells++#[] = #[.int .i64 key,.int .i64 0,.int .i64 (3+c.t+key / 16),.int .i64 0,.int .i64 0,.int .i64 (3+c.t+4),.int .i64 0]:=by
  unfold Wc.new Wc.cells hintP headP
  rw [show (3+c.t+4:Int)=7+c.t by omega]
  rfl
 unfold WcAt Pb
 rw [e]
 exact Ob.newAt rfl _ _
def lnW (x:Wk):Int:=if x.line=0 then 5 else if x.line=5 then 3 else if x.line=6 then 4 else x.line - 1
structure WkR (x:Wk) (y:Wc):Prop where
 c:x.c.Ok
 kb:0≤x.key∧x.key≤63
 ln:x.line=0∨x.live=true
 key:y.key=x.key
 line:y.line=lnW x
 a0:y.a0=hintP x.c x.key
 a1:x.line=2∨x.line=3→y.a1=x.x∧y.a2=x.x
 hd:x.line=1∨x.line=2∨x.line=3→y.a3=headP x.c
 cur:x.line=5∨x.line=6→y.a3=x.cur
 at_:x.line=0→y.a3=x.at_
 n:x.line=6→y.a4=x.n
theorem WkR.new {c:Cf} (hc:c.Ok) {key:Int} (hk:0≤key∧key≤63):WkR (Wk.new c key) (Wc.new c key) :=
 ⟨hc,hk,.inr rfl,rfl,rfl,rfl,fun k=>by simp [Wk.new] at k,fun _=>rfl,fun k=>by simp [Wk.new] at k,fun k=>by simp [Wk.new] at k,fun k=>by simp [Wk.new] at k⟩
theorem WkR.lines {x:Wk} {y:Wc} (h:WkR x y):x.line=0∨x.line=1∨x.line=2∨x.line=3∨x.line=5∨x.line=6:=by
 rcases h.ln with k | k
 ·exact .inl k
 ·unfold Wk.live at k
  simp only [Bool.or_eq_true,decide_eq_true_eq] at k
  omega
theorem WkR.bd {x:Wk} {y:Wc} (h:WkR x y):0≤y.line∧y.line≤5:=by
 have:=h.lines
 rw [h.line];unfold lnW
 repeat' split
 all_goals omega
theorem WkR.over {x:Wk} {y:Wc} (h:WkR x y):y.line=5↔x.line=0:=by
 have:=h.lines
 rw [h.line];unfold lnW
 repeat' split
 all_goals omega
theorem WkR.looks {x:Wk} {y:Wc} (h:WkR x y) (h0:x.line≠0):y.looks=x.looks:=by
 have ht1:=h.c.t1
 have ht8:=h.c.t8
 have hk:=h.kb
 have hw:wrap64 (hintP x.c x.key)=hintP x.c x.key:=by unfold hintP;exact w64 (by omega) (by omega)
 unfold Wc.looks Wk.looks
 rw [h.line]
 unfold lnW
 rcases h.lines with e | e | e | e | e | e
 ·exact absurd e h0
 ·simp [e,h.a0,hw]
 ·simp [e,(h.a1 (.inl e)).1]
 ·simp [e,(h.a1 (.inr e)).2]
 ·simp [e,h.cur (.inl e)]
 ·simp [e,h.n e]
theorem WkR.step {x:Wk} {y:Wc} (h:WkR x y) (h0:x.line≠0) (v:Int) (hv:x.line=5→atU v=atW v):WkR (x.next v) (y.step v):=by
 have hk:=h.key
 have e0:y.line=lnW x:=h.line
 rcases h.lines with e | e | e | e | e | e
 ·exact absurd e h0
 ·have e1:y.line=0:=by rw [e0];unfold lnW;simp [e]
  have a3:=h.hd (.inl e)
  by_cases q:v=0
  ·have n1:x.next v = { x with x:=0,cur:=headP x.c,line:=5 }:=by unfold Wk.next;simp [e,q,Wk.head]
   have n2:y.step v = { y with line:=3 }:=by unfold Wc.step Wc.beh Wc.behL;simp [e1,q]
   rw [n1,n2]
   exact ⟨h.c,h.kb,.inr rfl,hk,rfl,h.a0,fun k=>by simp at k,fun k=>by simp at k,fun _=>a3,fun k=>by simp at k,fun k=>by simp at k⟩
  ·have n1:x.next v = { x with x:=v,line:=2 }:=by unfold Wk.next;simp [e,q]
   have n2:y.step v = { y with a1:=v,a2:=v,line:=1 }:=by unfold Wc.step Wc.beh Wc.behL;simp [e1,q]
   rw [n1,n2]
   exact ⟨h.c,h.kb,.inr rfl,hk,rfl,h.a0,fun _=>⟨rfl,rfl⟩,fun _=>a3,fun k=>by simp at k,fun k=>by simp at k,fun k=>by simp at k⟩
 ·have e1:y.line=1:=by rw [e0];unfold lnW;simp [e]
  have a3:=h.hd (.inr (.inl e))
  have a1:=h.a1 (.inl e)
  by_cases q:v=0
  ·have n1:x.next v = { x with line:=3 }:=by unfold Wk.next;simp [e,q]
   have n2:y.step v = { y with line:=2 }:=by unfold Wc.step Wc.beh Wc.behL;simp [e1,q]
   rw [n1,n2]
   exact ⟨h.c,h.kb,.inr rfl,hk,rfl,h.a0,fun _=>a1,fun _=>a3,fun k=>by simp at k,fun k=>by simp at k,fun k=>by simp at k⟩
  ·have n1:x.next v = { x with cur:=headP x.c,line:=5 }:=by unfold Wk.next;simp [e,q,Wk.head]
   have n2:y.step v = { y with line:=3 }:=by unfold Wc.step Wc.beh Wc.behL;simp [e1,q]
   rw [n1,n2]
   exact ⟨h.c,h.kb,.inr rfl,hk,rfl,h.a0,fun k=>by simp at k,fun k=>by simp at k,fun _=>a3,fun k=>by simp at k,fun k=>by simp at k⟩
 ·have e1:y.line=2:=by rw [e0];unfold lnW;simp [e]
  have a3:=h.hd (.inr (.inr e))
  have a1:=h.a1 (.inr e)
  by_cases q:v≤x.key
  ·have n1:x.next v = { x with cur:=x.x,line:=5 }:=by unfold Wk.next;simp [e,q]
   have n2:y.step v = { y with a3:=y.a2,line:=3 }:=by unfold Wc.step Wc.beh Wc.behL;simp [e1,q,hk]
   rw [n1,n2]
   exact ⟨h.c,h.kb,.inr rfl,hk,rfl,h.a0,fun k=>by simp at k,fun k=>by simp at k,fun _=>a1.2,fun k=>by simp at k,fun k=>by simp at k⟩
  ·have n1:x.next v = { x with cur:=headP x.c,line:=5 }:=by unfold Wk.next;simp [e,q,Wk.head]
   have n2:y.step v = { y with line:=3 }:=by unfold Wc.step Wc.beh Wc.behL;simp [e1,q,hk]
   rw [n1,n2]
   exact ⟨h.c,h.kb,.inr rfl,hk,rfl,h.a0,fun k=>by simp at k,fun k=>by simp at k,fun _=>a3,fun k=>by simp at k,fun k=>by simp at k⟩
 ·have e1:y.line=3:=by rw [e0];unfold lnW;simp [e]
  have cu:=h.cur (.inl e)
  have hu:=hv e
  by_cases q:atW v=0
  ·have n1:x.next v = { x with n:=0,at_:=x.cur,line:=0 }:=by unfold Wk.next;simp [e,q,Wk.ends]
   have n2:y.step v = { y with line:=5 }:=by unfold Wc.step Wc.beh Wc.behL;simp [e1,hu,q]
   rw [n1,n2]
   exact ⟨h.c,h.kb,.inl rfl,hk,rfl,h.a0,fun k=>by simp at k,fun k=>by simp at k,fun k=>by simp at k,fun _=>cu,fun k=>by simp at k⟩
  ·have n1:x.next v = { x with n:=atW v,line:=6 }:=by unfold Wk.next;simp [e,q]
   have n2:y.step v = { y with a4:=atW v,line:=4 }:=by unfold Wc.step Wc.beh Wc.behL;simp [e1,hu,q]
   rw [n1,n2]
   exact ⟨h.c,h.kb,.inr rfl,hk,rfl,h.a0,fun k=>by simp at k,fun k=>by simp at k,fun _=>cu,fun k=>by simp at k,fun _=>rfl⟩
 ·have e1:y.line=4:=by rw [e0];unfold lnW;simp [e]
  have cu:=h.cur (.inr e)
  have hn:=h.n e
  by_cases q:v≤x.key
  ·have n1:x.next v = { x with cur:=x.n,line:=5 }:=by unfold Wk.next;simp [e,q]
   have q2:¬ x.key<v:=by omega
   have n2:y.step v = { y with a3:=y.a4,line:=3 }:=by unfold Wc.step Wc.beh Wc.behL;simp [e1,q2,hk]
   rw [n1,n2]
   exact ⟨h.c,h.kb,.inr rfl,hk,rfl,h.a0,fun k=>by simp at k,fun k=>by simp at k,fun _=>hn,fun k=>by simp at k,fun k=>by simp at k⟩
  ·have n1:x.next v = { x with at_:=x.cur,line:=0 }:=by unfold Wk.next;simp [e,q,Wk.ends]
   have q2:x.key<v:=by omega
   have n2:y.step v = { y with line:=5 }:=by unfold Wc.step Wc.beh Wc.behL;simp [e1,q2,hk]
   rw [n1,n2]
   exact ⟨h.c,h.kb,.inl rfl,hk,rfl,h.a0,fun k=>by simp at k,fun k=>by simp at k,fun k=>by simp at k,fun _=>cu,fun k=>by simp at k⟩
end Go.Proofs.YtjhefbenmhmbcaaDoor.Dw
