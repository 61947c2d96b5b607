/- Parts. -/
import Derived.Test.YtbddhncgemeohaaGreatDoorYaa
import Derived.Test.YtbddhncgemeohaaGreatDoorYab
import Derived.Test.YtbddhncgemeohaaGreatDoorYad
import Derived.Test.YtbddhncgemeohaaGreatDoorYae
import Derived.Test.YtbddhncgemeohaaGreatDoorYah
import Derived.Test.YtbddhncgemeohaaGreatDoorYak
import Derived.Carry
import Derived.Maps.OwnSet
import Derived.RegionTactic
set_option linter.unusedVariables false
set_option linter.unusedSimpArgs false
set_option maxRecDepth 100000
set_option maxHeartbeats 12800000
namespace Go.Proofs.YtbddhncgemeohaaGreatDoor.Ar
open Go.RowKit Go.Maps
def ik (k:Nat):Lit:=.int .i64 k
def cnt (D:DataW Value):Nat->Nat
 | 0=>0
 | n+1=>cnt D n+if has D (ik n) then 1 else 0
end Go.Proofs.YtbddhncgemeohaaGreatDoor.Ar
namespace Go.Proofs.YtbddhncgemeohaaGreatDoor.Ch
open Go.RowKit Ar Mx Vw
def atU (w:Int):Int:=w % 18446744073709551616 / 2
theorem Jt:∀ (m:Nat) (l:List Int),l.Nodup->(∀ x∈l,0<=x/\x<m)->l.length<=m
 | 0,l,_,h=>by
  cases l with
  | nil=>simp
  | cons x r=>have:=h x Ma;omega
 | m+1,l,hn,h=>by
  have h1:=Jt m (l.erase (m:Int)) (hn.erase _) (fun x hx=>by
   rw [hn.mem_erase_iff] at hx
   have:=h x hx.2
   have:=hx.1
   omega)
  rw [List.length_erase] at h1
  split at h1 <;> omega
structure Told (len n:Nat) (acc:List Int):Prop where
 nd:acc.Nodup
 at_:∀ x∈acc,Zh len n x=true
theorem Told.nil (len n:Nat):Told len n []:=⟨List.nodup_nil,by simp⟩
theorem Told.le {len n:Nat} {acc:List Int} (h:Told len n acc):acc.length<=len :=
 Jt len acc h.nd (fun x hx=>by have:=qdy (h.at_ x hx);omega)
theorem Told.add {len n:Nat} {acc:List Int} (h:Told len n acc) {a:Int} (h1:Zh len n a=true) (h2:a∉acc):Told len n (acc++[a]) :=
 ⟨by rw [List.nodup_append];exact ⟨h.nd,by simp,fun x hx y hy=>by simp at hy;subst hy;rintro rfl;exact h2 hx⟩,fun x hx=>by
  rcases List.mem_append.1 hx with h3 | h3
  ·exact h.at_ x h3
  ·simp at h3;subst h3;exact h1⟩
theorem Xb (a:Int) (w:World):Calls Tryz.prog 55 #[.int .i64 a] w fun e w'=>e = .returned (.int .i64 (atU a))/\w=w' :=
 (Word.Xb a w).mono (by rintro e w' ⟨rfl,rfl⟩;exact ⟨rfl,rfl⟩)
def sliceLen:Value->Nat
 | .slice _ n _=>n
 | _=>0
end Go.Proofs.YtbddhncgemeohaaGreatDoor.Ch
namespace Go.Proofs.YtbddhncgemeohaaGreatDoor.Dw
open Go.RowKit Ar Mx Ch
structure Wc where
 key:Int
 line:Int
 a0:Int
 a1:Int
 a2:Int
 a3:Int
 a4:Int
def Wc.cells (y:Wc):Array Value:=#[.int .i64 y.key,.int .i64 y.line,.int .i64 y.a0,.int .i64 y.a1,.int .i64 y.a2,.int .i64 y.a3,.int .i64 y.a4]
def Ye (w:World) (b:Nat) (T:TypeId) (pre post:Array Value) (y:Wc):Prop:=Pb w b T pre post y.cells
section
variable {w:World} {b o:Nat} {T:TypeId} {pre post:Array Value} {y:Wc}
theorem jf (h:Ye w b T pre post y) (ho:pre.size=o):w.cell? ⟨b,o,none⟩=some (.int .i64 y.key)/\w.cell? ⟨b,o+1,none⟩=some (.int .i64 y.line)/\w.cell? ⟨b,o+2,none⟩=some (.int .i64 y.a0)/\w.cell? ⟨b,o+2+1,none⟩=some (.int .i64 y.a1)/\w.cell? ⟨b,o+2+2,none⟩=some (.int .i64 y.a2)/\w.cell? ⟨b,o+2+3,none⟩=some (.int .i64 y.a3)/\w.cell? ⟨b,o+2+4,none⟩=some (.int .i64 y.a4) :=
 ⟨h.cell (i:=0) ho rfl,h.cell (i:=1) ho rfl,h.cell (i:=2) ho rfl,h.cell (i:=3) ho rfl,h.cell (i:=4) ho rfl,h.cell (i:=5) ho rfl,h.cell (i:=6) ho rfl⟩
theorem q4x (h:Ye w b T pre post y) (ho:pre.size=o):Calls Tryz.prog 12 #[.pointer (some ⟨b,o,none⟩)] w fun e w'=>e = .returned (.int .i64 (if y.line=5 then y.a3 else 0))/\w=w':=by
 obtain ⟨c0,c1,c2,c3,c4,c5,c6⟩:=jf h ho;by_cases e:y.line=5
 ·have q:(y.line != 5)=false:=by simp [e]
  rw [qg e];rw [e] at c1;exact Lx
 ·have q:(y.line != 5)=true:=by simpa using e
  rw [qf e];exact Lx
theorem qa5 (x:Int) (h:Ye w b T pre post y) (ho:pre.size=o):Calls Tryz.prog 53 #[.pointer (some ⟨b,o,none⟩),.int .i64 x] w fun e w'=>e = .returned (.int .i64 (if x=0 then 3 else 1))/\Ye w' b T pre post (if x=0 then y else { y with a1:=x,a2:=x })/\Fr [b] w w':=by
 obtain ⟨c0,c1,c2,c3,c4,c5,c6⟩:=jf h ho;have z:=h.frozen;by_cases e:x=0
 ·have q:(x == 0)=true:=by simpa using e
  rw [qg e,qg e];have HH:=qb h;clear h e;go_enter Tryz.func53,Tryz.ntmps53;exact Ia
 ·have q:(x == 0)=false:=by simpa using e
  rw [qf e,qf e];have HH:=qb h;clear h e;go_enter Tryz.func53,Tryz.ntmps53;go_wp2_with fail;go_region;all_goals go_wp2
  all_goals go_ret
  all_goals
   refine ⟨rfl,?_,?_⟩
   ·have k:=Pb.set (Pb.set HH.out ho (i:=3) (by show 3<7;omega) (.int .i64 x)) ho (i:=4) (by show 4<7;omega) (.int .i64 x)
    exact k
   ·first | exact (((Fr.refl [b] w).setCell' (b:=b) _ Ma).setCell' (b:=b) _ Ma).drew | exact ((((Fr.refl [b] w).drew).setCell' (b:=b) _ Ma).setCell' (b:=b) _ Ma)
theorem q04 (x:Int) (h:Ye w b T pre post y) (ho:pre.size=o):Calls Tryz.prog 54 #[.pointer (some ⟨b,o,none⟩),.int .i64 x] w fun e w'=>e = .returned (.int .i64 (if x=0 then 5 else 4))/\Ye w' b T pre post (if x=0 then y else { y with a4:=x })/\Fr [b] w w':=by
 obtain ⟨c0,c1,c2,c3,c4,c5,c6⟩:=jf h ho;have z:=h.frozen;by_cases e:x=0
 ·have q:(x == 0)=true:=by simpa using e
  rw [qg e,qg e];have HH:=qb h;clear h e;go_enter Tryz.func54,Tryz.ntmps54;exact Ia
 ·have q:(x == 0)=false:=by simpa using e
  rw [qf e,qf e];have HH:=qb h;clear h e;go_enter Tryz.func54,Tryz.ntmps54;go_wp2;go_ret;exact ⟨rfl,Pb.set HH.out ho (i:=6) (by show 6<7;omega) (.int .i64 x),Fr.setCell (S:=[b]) _ Ma⟩
def Wc.beh (y:Wc) (v:Int):Wc :=
 if y.line=0 then (if v=0 then y else { y with a1:=v,a2:=v })
 else if y.line=1 then y
 else if y.line=2 then (if v<=y.key then { y with a3:=y.a2 } else y)
 else if y.line=3 then (if atU v=0 then y else { y with a4:=atU v })
 else (if y.key<v then y else { y with a3:=y.a4 })
def Wc.behL (y:Wc) (v:Int):Int :=
 if y.line=0 then (if v=0 then 3 else 1)
 else if y.line=1 then (if v=0 then 2 else 3)
 else if y.line=2 then 3
 else if y.line=3 then (if atU v=0 then 5 else 4)
 else (if y.key<v then 5 else 3)
def Post1 (w:World) (b:Nat) (T:TypeId) (pre post:Array Value) (y:Wc) (ln:Int) (e:Ending) (w':World):Prop:=e = .returned (.int .i64 ln)/\Ye w' b T pre post y/\Fr [b] w w'
theorem Qu (v:Int) (hl:0<=y.line/\y.line<=4) (h:Ye w b T pre post y) (ho:pre.size=o):Calls Tryz.prog 31 #[.pointer (some ⟨b,o,none⟩),.int .i64 v] w (Post1 w b T pre post (y.beh v) (y.behL v)):=by
 obtain ⟨c0,c1,c2,c3,c4,c5,c6⟩:=jf h ho;have z:=h.frozen;have HH:=qb h;rcases (by omega:y.line=0\/y.line=1\/y.line=2\/y.line=3\/y.line=4) with e | e | e | e | e
 ·have e1:y.beh v=(if v=0 then y else { y with a1:=v,a2:=v }):=by unfold Wc.beh;rw [qg e]
  have e2:y.behL v=(if v=0 then 3 else 1):=by unfold Wc.behL;rw [qg e]
  have E1:=qb e1;have E2:=qb e2;rw [e] at c1;have hk:=qa5 v h ho;rw [<- e1,<- e2] at hk;have HK:=qb hk;clear hk;generalize y.beh v=yb at *;generalize y.behL v=lb at *;clear e1 e2;clear h e hl;go_enter Tryz.func31,Tryz.ntmps31;exact De
 ·have e1:y.beh v=y:=by unfold Wc.beh;rw [qf Ly,qg e]
  have e2:y.behL v=(if v=0 then 2 else 3):=by unfold Wc.behL;rw [qf Ly,qg e]
  have E1:=qb e1;have E2:=qb e2;generalize y.beh v=yb at *;generalize y.behL v=lb at *;clear e1 e2;rw [e] at c1;by_cases e0:v=0
  ·have q:(v != 0)=false:=by simp [e0]
   exact Aj
  ·have q:(v != 0)=true:=by simpa using e0
   exact Aj
 ·have e1:y.beh v=(if v<=y.key then { y with a3:=y.a2 } else y):=by unfold Wc.beh;rw [qf Ly,qf Ly,qg e]
  have e2:y.behL v=3:=by unfold Wc.behL;rw [qf Ly,qf Ly,qg e]
  have E1:=qb e1;have E2:=qb e2;generalize y.beh v=yb at *;generalize y.behL v=lb at *;clear e1 e2;rw [e] at c1;by_cases e0:v<=y.key
  ·have q:decide (v<=y.key)=true:=by simpa using e0
   have H0:=qb e0;clear h e hl e0;go_enter Tryz.func31,Tryz.ntmps31;go_wp2_with fail;go_region;all_goals go_wp2_with fail
   all_goals go_ret
   all_goals refine ⟨?_,?_,?_⟩
   ·exact Iz
   ·rw [E1.out];first | (rw [qg H0.out];exact Pb.set HH.out ho (i:=5) Px (.int .i64 y.a2)) | (rw [qf (Int.not_lt.mpr H0.out)];exact Pb.set HH.out ho (i:=5) Px (.int .i64 y.a2))
   ·exact Ec
  ·have q:decide (v<=y.key)=false:=by simpa using e0
   exact Aj
 ·have e1:y.beh v=(if atU v=0 then y else { y with a4:=atU v }):=by unfold Wc.beh;rw [qf Ly,qf Ly,qf Ly,qg e]
  have e2:y.behL v=(if atU v=0 then 5 else 4):=by unfold Wc.behL;rw [qf Ly,qf Ly,qf Ly,qg e]
  have E1:=qb e1;have E2:=qb e2;have hk:=q04 (atU v) h ho;rw [<- e1,<- e2] at hk;have HK:=qb hk;clear hk;generalize y.beh v=yb at *;generalize y.behL v=lb at *;clear e1 e2;rw [e] at c1;clear h e hl;go_enter Tryz.func31,Tryz.ntmps31;go_wp2_with fail;refine (Ch.Xb _ _).mono ?_;rintro e _ ⟨rfl,rfl⟩;generalize atU v=u at *;exact De
 ·have e1:y.beh v=(if y.key<v then y else { y with a3:=y.a4 }):=by unfold Wc.beh;rw [qf Ly,qf Ly,qf Ly,qf Ly]
  have e2:y.behL v=(if y.key<v then 5 else 3):=by unfold Wc.behL;rw [qf Ly,qf Ly,qf Ly,qf Ly]
  have E1:=qb e1;have E2:=qb e2;generalize y.beh v=yb at *;generalize y.behL v=lb at *;clear e1 e2;rw [e] at c1;by_cases e0:y.key<v
  ·have q:decide (v>y.key)=true:=by simpa using e0
   have q2:decide (y.key<v)=true:=by simpa using e0
   exact Aj
  ·have q:decide (v>y.key)=false:=by simpa using e0
   have q2:decide (y.key<v)=false:=by simpa using e0
   have H0:=qb e0;clear h e hl e0;go_enter Tryz.func31,Tryz.ntmps31;go_wp2_with fail;go_region;all_goals go_wp2_with fail
   all_goals go_ret
   all_goals refine ⟨?_,?_,?_⟩
   ·rw [E2.out];first | rfl | (rw [qg H0.out];done) | (rw [qf H0.out];done) | (rw [qf (Int.not_le.mpr H0.out)];done) | (rw [qf (Int.not_lt.mpr H0.out)];done) | (rw [qf (Int.not_lt.mpr H0.out)];rfl) | (rw [qg H0.out];rfl) | (rw [qf H0.out];rfl)
   ·rw [E1.out];first | (rw [qg H0.out];exact Pb.set HH.out ho (i:=5) Px (.int .i64 y.a4)) | (rw [qf (Int.not_lt.mpr H0.out)];exact Pb.set HH.out ho (i:=5) Px (.int .i64 y.a4))
   ·exact Ec
end
def Fl (w:World):Prop:=w.cell? ⟨0,0,none⟩=some (.int .i64 0)/\w.cell? ⟨0,1,none⟩=some (.int .i64 6)/\w.cell? ⟨0,2,none⟩=some (.int .i64 0)/\w.cell? ⟨0,3,none⟩=some (.int .i64 2)/\w.cell? ⟨0,4,none⟩=some (.int .i64 0)
theorem Fl.kept {S:List Nat} {w w':World} (t:Fl w) (f:Fr S w w') (h:0∉S):Fl w':=by obtain ⟨t0,t1,t2,t3,t4⟩:=t;exact ⟨f.cell t0 h,f.cell t1 h,f.cell t2 h,f.cell t3 h,f.cell t4 h⟩
theorem Fl.up {w w':World} (t:Fl w) (f:Fr [] w w'):Fl w':=t.kept f Ma
def Wc.looks (y:Wc):Int:=if y.line=0 then wrap64 y.a0 else if y.line=1 then wrap64 (y.a1+6) else if y.line=2 then wrap64 y.a2 else if y.line=3 then wrap64 (y.a3+2) else wrap64 y.a4
def Wc.step (y:Wc) (v:Int):Wc:={ y.beh v with line:=y.behL v }
def q3n (w:World) (b p q:Nat) (T:TypeId) (pre post:Array Value) (y:Wc) (s:St) (e:Ending) (w':World):Prop:=e = .returned (.bool (decide (y.line=5)))/\Ye w' b T pre post y/\Ar w' p q s/\Fr [b,p,q] w w'
theorem Xa (y:Wc) (v:Int) (l:Int):(y.beh v).cells.setIfInBounds 1 (.int .i64 l)=({ y.beh v with line:=l }:Wc).cells:=rfl
section
variable {w:World} {b o p q:Nat} {T:TypeId} {pre post:Array Value} {y:Wc} {s:St}
theorem qdk (hl:y.line=0) (h:Ye w b T pre post y) (ho:pre.size=o) (hf:Fl w) (hA:Ar w p q s) (hne:b≠p/\b≠q) (hg:0≠p/\0≠q) :
  Calls Tryz.prog 10 #[.pointer (some ⟨b,o,none⟩),.pointer (some ⟨p,0,none⟩)] w (q3n w b p q T pre post (y.step (qx s.l y.looks)) (s.load y.looks)):=by
 obtain ⟨c0,c1,c2,c3,c4,c5,c6⟩:=jf h ho;have el:y.looks=wrap64 y.a0:=by unfold Wc.looks;rw [qg hl]
 rw [hl] at c1;rw [el];obtain ⟨hbp,hbq⟩:=hne;obtain ⟨hgp,hgq⟩:=hg;have HY:=qb (qd hl ho);clear hl ho el;obtain ⟨t0,t1,t2,t3,t4⟩:=hf;have q0:((0:Int) != 5)=true:=by decide
 go_enter Tryz.func10,Tryz.ntmps10;go_wp2_with fail;refine qq Me ?_;refine yl 0 rfl Me Me Me rfl (fun _ _ d _ _ h=>by cases d <;> exact h) ?_;go_frame;refine za [p,q] w #[true,true,true,true,true,true,true,true,true,true,true,true,true,true,true,true,true,true,true,true,false,false,false,false] 19 4 rfl ?_;refine jw [false,true,true,true,true,true,true,true,true,true,true,true,true,true,true,true,true,true,true,false,false,false,false,false] 1 (n:=38) (listed':=#[true,true,true,true,true,true,true,true,true,true,true,true,true,true,true,true,true,true,true,false,false,false,false,false]) rfl Me Me Me Me Me rfl Me (fun _ _ d _ _ h=>by cases d <;> exact h) ((Fr.refl _ w).drew) ?_;apply qh;refine ⟨fun wf Ff=>?_,?_⟩
 ·have d1:=Ff.cell c1 N7;have d2:=Ff.cell c2 N7;have d3:=Ff.cell t0 O3;exact L8
 refine loq 19 (fun w3 F3=>?_);have D3:=(Fr.refl [] w).drew.trans F3;have A3:=hA.kept D3;have h3:Ye w3 b T pre post y:=h.up D3;clear hA h F3 c0 c1 c2 c3 c4 c5 c6 t0 t1 t2 t3 t4;go_wp2_with fail;refine (Ar.zl _ p q s _ A3).mono ?_;rintro e w4 ⟨rfl,A4,F4⟩;generalize wrap64 y.a0=lk at *;exact Ab
theorem qdh (hl:y.line=1) (h:Ye w b T pre post y) (ho:pre.size=o) (hf:Fl w) (hA:Ar w p q s) (hne:b≠p/\b≠q) (hg:0≠p/\0≠q) :
  Calls Tryz.prog 10 #[.pointer (some ⟨b,o,none⟩),.pointer (some ⟨p,0,none⟩)] w (q3n w b p q T pre post (y.step (qx s.l y.looks)) (s.load y.looks)):=by
 obtain ⟨c0,c1,c2,c3,c4,c5,c6⟩:=jf h ho;have el:y.looks=wrap64 (y.a1+6):=by unfold Wc.looks;rw [qf Ly,qg hl]
 rw [hl] at c1;rw [el];obtain ⟨hbp,hbq⟩:=hne;obtain ⟨hgp,hgq⟩:=hg;have HY:=qb (qd hl ho);clear hl ho el;obtain ⟨t0,t1,t2,t3,t4⟩:=hf;have q0:((1:Int) != 5)=true:=by decide
 go_enter Tryz.func10,Tryz.ntmps10;go_wp2_with fail;refine qq Me ?_;refine yl 0 rfl Me Me Me rfl (fun _ _ d _ _ h=>by cases d <;> exact h) ?_;go_frame;refine za [p,q] w #[true,true,true,true,true,true,true,true,true,true,true,true,true,true,true,true,true,true,true,true,false,false,false,false] 19 4 rfl ?_;refine jw [false,true,true,true,true,true,true,true,true,true,true,true,true,true,true,true,true,true,true,false,false,false,false,false] 1 (n:=38) (listed':=#[true,true,true,true,true,true,true,true,true,true,true,true,true,true,true,true,true,true,true,false,false,false,false,false]) rfl Me Me Me Me Me rfl Me (fun _ _ d _ _ h=>by cases d <;> exact h) ((Fr.refl _ w).drew) ?_;apply qh;refine ⟨fun wf Ff=>?_,?_⟩
 ·have d1:=Ff.cell c1 N7;have d2:=Ff.cell c3 N7;have d3:=Ff.cell t1 O3;exact L8
 refine loq 19 (fun w3 F3=>?_);have D3:=(Fr.refl [] w).drew.trans F3;have A3:=hA.kept D3;have h3:Ye w3 b T pre post y:=h.up D3;clear hA h F3 c0 c1 c2 c3 c4 c5 c6 t0 t1 t2 t3 t4;go_wp2_with fail;refine (Ar.zl _ p q s _ A3).mono ?_;rintro e w4 ⟨rfl,A4,F4⟩;generalize wrap64 (y.a1+6)=lk at *;exact Ab
theorem qcl (hl:y.line=2) (h:Ye w b T pre post y) (ho:pre.size=o) (hf:Fl w) (hA:Ar w p q s) (hne:b≠p/\b≠q) (hg:0≠p/\0≠q) :
  Calls Tryz.prog 10 #[.pointer (some ⟨b,o,none⟩),.pointer (some ⟨p,0,none⟩)] w (q3n w b p q T pre post (y.step (qx s.l y.looks)) (s.load y.looks)):=by
 obtain ⟨c0,c1,c2,c3,c4,c5,c6⟩:=jf h ho;have el:y.looks=wrap64 y.a2:=by unfold Wc.looks;rw [qf Ly,qf Ly,qg hl]
 rw [hl] at c1;rw [el];obtain ⟨hbp,hbq⟩:=hne;obtain ⟨hgp,hgq⟩:=hg;have HY:=qb (qd hl ho);clear hl ho el;obtain ⟨t0,t1,t2,t3,t4⟩:=hf;have q0:((2:Int) != 5)=true:=by decide
 go_enter Tryz.func10,Tryz.ntmps10;go_wp2_with fail;refine qq Me ?_;refine yl 0 rfl Me Me Me rfl (fun _ _ d _ _ h=>by cases d <;> exact h) ?_;go_frame;refine za [p,q] w #[true,true,true,true,true,true,true,true,true,true,true,true,true,true,true,true,true,true,true,true,false,false,false,false] 19 4 rfl ?_;refine jw [false,true,true,true,true,true,true,true,true,true,true,true,true,true,true,true,true,true,true,false,false,false,false,false] 1 (n:=38) (listed':=#[true,true,true,true,true,true,true,true,true,true,true,true,true,true,true,true,true,true,true,false,false,false,false,false]) rfl Me Me Me Me Me rfl Me (fun _ _ d _ _ h=>by cases d <;> exact h) ((Fr.refl _ w).drew) ?_;apply qh;refine ⟨fun wf Ff=>?_,?_⟩
 ·have d1:=Ff.cell c1 N7;have d2:=Ff.cell c4 N7;have d3:=Ff.cell t2 O3;exact L8
 refine loq 19 (fun w3 F3=>?_);have D3:=(Fr.refl [] w).drew.trans F3;have A3:=hA.kept D3;have h3:Ye w3 b T pre post y:=h.up D3;clear hA h F3 c0 c1 c2 c3 c4 c5 c6 t0 t1 t2 t3 t4;go_wp2_with fail;refine (Ar.zl _ p q s _ A3).mono ?_;rintro e w4 ⟨rfl,A4,F4⟩;generalize wrap64 y.a2=lk at *;exact Ab
theorem qdg (hl:y.line=3) (h:Ye w b T pre post y) (ho:pre.size=o) (hf:Fl w) (hA:Ar w p q s) (hne:b≠p/\b≠q) (hg:0≠p/\0≠q) :
  Calls Tryz.prog 10 #[.pointer (some ⟨b,o,none⟩),.pointer (some ⟨p,0,none⟩)] w (q3n w b p q T pre post (y.step (qx s.l y.looks)) (s.load y.looks)):=by
 obtain ⟨c0,c1,c2,c3,c4,c5,c6⟩:=jf h ho;have el:y.looks=wrap64 (y.a3+2):=by unfold Wc.looks;rw [qf Ly,qf Ly,qf Ly,qg hl]
 rw [hl] at c1;rw [el];obtain ⟨hbp,hbq⟩:=hne;obtain ⟨hgp,hgq⟩:=hg;have HY:=qb (qd hl ho);clear hl ho el;obtain ⟨t0,t1,t2,t3,t4⟩:=hf;have q0:((3:Int) != 5)=true:=by decide
 go_enter Tryz.func10,Tryz.ntmps10;go_wp2_with fail;refine qq Me ?_;refine yl 0 rfl Me Me Me rfl (fun _ _ d _ _ h=>by cases d <;> exact h) ?_;go_frame;refine za [p,q] w #[true,true,true,true,true,true,true,true,true,true,true,true,true,true,true,true,true,true,true,true,false,false,false,false] 19 4 rfl ?_;refine jw [false,true,true,true,true,true,true,true,true,true,true,true,true,true,true,true,true,true,true,false,false,false,false,false] 1 (n:=38) (listed':=#[true,true,true,true,true,true,true,true,true,true,true,true,true,true,true,true,true,true,true,false,false,false,false,false]) rfl Me Me Me Me Me rfl Me (fun _ _ d _ _ h=>by cases d <;> exact h) ((Fr.refl _ w).drew) ?_;apply qh;refine ⟨fun wf Ff=>?_,?_⟩
 ·have d1:=Ff.cell c1 N7;have d2:=Ff.cell c5 N7;have d3:=Ff.cell t3 O3;exact L8
 refine loq 19 (fun w3 F3=>?_);have D3:=(Fr.refl [] w).drew.trans F3;have A3:=hA.kept D3;have h3:Ye w3 b T pre post y:=h.up D3;clear hA h F3 c0 c1 c2 c3 c4 c5 c6 t0 t1 t2 t3 t4;go_wp2_with fail;refine (Ar.zl _ p q s _ A3).mono ?_;rintro e w4 ⟨rfl,A4,F4⟩;generalize wrap64 (y.a3+2)=lk at *;exact Ab
theorem qco (hl:y.line=4) (h:Ye w b T pre post y) (ho:pre.size=o) (hf:Fl w) (hA:Ar w p q s) (hne:b≠p/\b≠q) (hg:0≠p/\0≠q) :
  Calls Tryz.prog 10 #[.pointer (some ⟨b,o,none⟩),.pointer (some ⟨p,0,none⟩)] w (q3n w b p q T pre post (y.step (qx s.l y.looks)) (s.load y.looks)):=by
 obtain ⟨c0,c1,c2,c3,c4,c5,c6⟩:=jf h ho;have el:y.looks=wrap64 y.a4:=by unfold Wc.looks;rw [qf Ly,qf Ly,qf Ly,qf Ly]
 rw [hl] at c1;rw [el];obtain ⟨hbp,hbq⟩:=hne;obtain ⟨hgp,hgq⟩:=hg;have HY:=qb (qd hl ho);clear hl ho el;obtain ⟨t0,t1,t2,t3,t4⟩:=hf;have q0:((4:Int) != 5)=true:=by decide
 go_enter Tryz.func10,Tryz.ntmps10;go_wp2_with fail;refine qq Me ?_;refine yl 0 rfl Me Me Me rfl (fun _ _ d _ _ h=>by cases d <;> exact h) ?_;go_frame;refine za [p,q] w #[true,true,true,true,true,true,true,true,true,true,true,true,true,true,true,true,true,true,true,true,false,false,false,false] 19 4 rfl ?_;refine jw [false,true,true,true,true,true,true,true,true,true,true,true,true,true,true,true,true,true,true,false,false,false,false,false] 1 (n:=38) (listed':=#[true,true,true,true,true,true,true,true,true,true,true,true,true,true,true,true,true,true,true,false,false,false,false,false]) rfl Me Me Me Me Me rfl Me (fun _ _ d _ _ h=>by cases d <;> exact h) ((Fr.refl _ w).drew) ?_;apply qh;refine ⟨fun wf Ff=>?_,?_⟩
 ·have d1:=Ff.cell c1 N7;have d2:=Ff.cell c6 N7;have d3:=Ff.cell t4 O3;exact L8
 refine loq 19 (fun w3 F3=>?_);have D3:=(Fr.refl [] w).drew.trans F3;have A3:=hA.kept D3;have h3:Ye w3 b T pre post y:=h.up D3;clear hA h F3 c0 c1 c2 c3 c4 c5 c6 t0 t1 t2 t3 t4;go_wp2_with fail;refine (Ar.zl _ p q s _ A3).mono ?_;rintro e w4 ⟨rfl,A4,F4⟩;generalize wrap64 y.a4=lk at *;exact Ab
theorem q7d (hl:0<=y.line/\y.line<=5) (h:Ye w b T pre post y) (ho:pre.size=o) (hf:Fl w) (hA:Ar w p q s) (hne:b≠p/\b≠q) (hg:0≠p/\0≠q) :
  Calls Tryz.prog 10 #[.pointer (some ⟨b,o,none⟩),.pointer (some ⟨p,0,none⟩)] w (q3n w b p q T pre post (if y.line=5 then y else y.step (qx s.l y.looks)) (if y.line=5 then s else s.load y.looks)):=by
 by_cases e5:y.line=5
 ·rw [qg e5,qg e5];obtain ⟨c0,c1,c2,c3,c4,c5,c6⟩:=jf h ho;have HS:=qb (qd h (qd hA e5));rw [e5] at c1;clear h hA hl e5;go_enter Tryz.func10,Tryz.ntmps10;go_wp2;go_ret;exact ⟨by rw [decide_eq_true HS.out.2.2];rfl,HS.out.1,HS.out.2.1,Fr.refl _ _⟩
 ·rw [qf e5,qf e5];rcases (by omega:y.line=0\/y.line=1\/y.line=2\/y.line=3\/y.line=4) with e | e | e | e | e
  ·exact qdk e h ho hf hA hne hg
  ·exact qdh e h ho hf hA hne hg
  ·exact qcl e h ho hf hA hne hg
  ·exact qdg e h ho hf hA hne hg
  ·exact qco e h ho hf hA hne hg
end
def Wc.new (c:Cf) (key:Int):Wc:=⟨key,0,yn c key,0,0,zq c,0⟩
theorem q9a (c:Cf) (hc:c.Ok) (key:Int) (hk:0<=key/\key<=63) (w:World):Calls Tryz.prog 9 #[c.val,.int .i64 key] w fun e w'=>∃ b,e = .returned (.pointer (some ⟨b,0,none⟩))/\w.heap.size<=b/\Ye w' b 70 #[] #[] (Wc.new c key)/\Fr [] w w':=by
 unfold Cf.val;obtain ⟨c0,c1,c2,c3⟩:=Pl.xj (Go.heap_alloc_new w (.cells #[.int .i64 c.t,.int .i64 c.c,.int .i64 c.wd,.int .i64 c.v] 23));have F0:=(Fr.refl [] w).alloc (.cells #[.int .i64 c.t,.int .i64 c.c,.int .i64 c.wd,.int .i64 c.v] 23);have hc1:=hc.t1;have hc8:=hc.t8;have HC:=qb (qd hc hk);have hh:=qb (fun w=>Pl.Vu c.t c.c c.wd c.v key hc1 hc8 hk.1 hk.2 w);have hd:=qb (fun w=>Pl.Qb c.t c.c c.wd c.v hc1 hc8 w);clear hc hk hc1 hc8;go_enter Tryz.func9,Tryz.ntmps9;go_wp2_with fail;generalize hw1:(w.alloc (.cells #[.int .i64 c.t,.int .i64 c.c,.int .i64 c.wd,.int .i64 c.v] 23))=w1 at *;refine qq Me ?_;refine za [] w1 #[true,true,true,true,true,true,true,true,false,false] 8 2 rfl ?_;refine jw [true,true,true,true,true,true,true,true,false,false] 0 (n:=14) (listed':=#[true,true,true,true,true,true,true,true,false,false]) rfl Me Me Me Me Me rfl Me (fun _ _ d _ _ h=>by cases d <;> exact h) ((Fr.refl _ w1).drew) ?_;apply qh;refine ⟨fun wf Ff=>?_,?_⟩
 ·have k0:=qc (Ff.cell c0 Ma);have k1:=qc (Ff.cell c1 Ma);have k2:=qc (Ff.cell c2 Ma);have k3:=qc (Ff.cell c3 Ma);simp only [sel];repeat (go_big_quiet_step (first | (go_at_call 29;exact Calls.in_ (hh.out _)) | (go_at_call 30;exact Calls.in_ (hd.out _))))
  exact wpQuiet_nil rfl
 refine qy (k:=8) rfl Me (fun w5 F5=>?_);have F1:=F0.trans (((Fr.refl [] w1).drew).trans F5);clear c0 c1 c2 c3 hh hd F0;go_wp2_with fail;go_ret;refine ⟨w5.heap.size,rfl,F1.size,?_,F1.alloc _⟩
 have e:(#[]:Array Value)++(Wc.new c key).cells++#[] = #[.int .i64 key,.int .i64 0,.int .i64 (3+c.t+key / 16),.int .i64 0,.int .i64 0,.int .i64 (3+c.t+4),.int .i64 0]:=by unfold Wc.new Wc.cells yn zq;rw [show (3+c.t+4:Int)=7+c.t by omega];rfl
 unfold Ye Pb;rw [e];exact Ob.newAt rfl _ _
def lnW (x:Wk):Int:=if x.line=0 then 5 else if x.line=5 then 3 else if x.line=6 then 4 else x.line - 1
structure WkR (x:Wk) (y:Wc):Prop where
 c:x.c.Ok
 kb:0<=x.key/\x.key<=63
 ln:x.line=0\/x.live=true
 key:y.key=x.key
 line:y.line=lnW x
 a0:y.a0=yn x.c x.key
 a1:x.line=2\/x.line=3->y.a1=x.x/\y.a2=x.x
 hd:x.line=1\/x.line=2\/x.line=3->y.a3=zq x.c
 cur:x.line=5\/x.line=6->y.a3=x.cur
 at_:x.line=0->y.a3=x.at_
 n:x.line=6->y.a4=x.n
theorem WkR.new {c:Cf} (hc:c.Ok) {key:Int} (hk:0<=key/\key<=63):WkR (Wk.new c key) (Wc.new c key) :=
 ⟨hc,hk,.inr rfl,rfl,rfl,rfl,fun k=>by simp [Wk.new] at k,fun _=>rfl,fun k=>by simp [Wk.new] at k,fun k=>by simp [Wk.new] at k,fun k=>by simp [Wk.new] at k⟩
theorem WkR.lines {x:Wk} {y:Wc} (h:WkR x y):x.line=0\/x.line=1\/x.line=2\/x.line=3\/x.line=5\/x.line=6:=by
 rcases h.ln with k | k
 ·exact .inl k
 ·unfold Wk.live at k;simp only [Bool.or_eq_true,decide_eq_true_eq] at k;omega
theorem WkR.bd {x:Wk} {y:Wc} (h:WkR x y):0<=y.line/\y.line<=5:=Hh
theorem WkR.over {x:Wk} {y:Wc} (h:WkR x y):y.line=5↔x.line=0:=Hh
theorem WkR.looks {x:Wk} {y:Wc} (h:WkR x y) (h0:x.line≠0):y.looks=x.looks:=by
 have ht1:=h.c.t1;have ht8:=h.c.t8;have hk:=h.kb;have hw:wrap64 (yn x.c x.key)=yn x.c x.key:=by unfold yn;exact w64 Ly Ly
 unfold Wc.looks Wk.looks;rw [h.line];unfold lnW;rcases h.lines with e | e | e | e | e | e
 ·exact absurd e h0
 ·simp [e,h.a0,hw]
 ·simp [e,(h.a1 (.inl e)).1]
 ·simp [e,(h.a1 (.inr e)).2]
 ·simp [e,h.cur (.inl e)]
 ·simp [e,h.n e]
theorem WkR.step {x:Wk} {y:Wc} (h:WkR x y) (h0:x.line≠0) (v:Int) (hv:x.line=5->atU v=atW v):WkR (x.next v) (y.step v):=by
 have hk:=h.key;have e0:y.line=lnW x:=h.line;rcases h.lines with e | e | e | e | e | e
 ·exact absurd e h0
 ·have e1:y.line=0:=by rw [e0];unfold lnW;simp [e]
  have a3:=h.hd (.inl e);by_cases q:v=0
  ·have n1:x.next v = { x with x:=0,cur:=zq x.c,line:=5 }:=by unfold Wk.next;simp [e,q,Wk.head]
   exact Bv
  ·have n1:x.next v = { x with x:=v,line:=2 }:=by unfold Wk.next;simp [e,q]
   have n2:y.step v = { y with a1:=v,a2:=v,line:=1 }:=by unfold Wc.step Wc.beh Wc.behL;simp [e1,q]
   rw [n1,n2];exact ⟨h.c,h.kb,.inr rfl,hk,rfl,h.a0,fun _=>⟨rfl,rfl⟩,fun _=>a3,fun k=>by simp at k,fun k=>by simp at k,fun k=>by simp at k⟩
 ·have e1:y.line=1:=by rw [e0];unfold lnW;simp [e]
  have a3:=h.hd (.inr (.inl e));have a1:=h.a1 (.inl e);by_cases q:v=0
  ·have n1:x.next v = { x with line:=3 }:=by unfold Wk.next;simp [e,q]
   have n2:y.step v = { y with line:=2 }:=by unfold Wc.step Wc.beh Wc.behL;simp [e1,q]
   rw [n1,n2];exact ⟨h.c,h.kb,.inr rfl,hk,rfl,h.a0,fun _=>a1,fun _=>a3,fun k=>by simp at k,fun k=>by simp at k,fun k=>by simp at k⟩
  ·have n1:x.next v = { x with cur:=zq x.c,line:=5 }:=by unfold Wk.next;simp [e,q,Wk.head]
   exact Bv
 ·have e1:y.line=2:=by rw [e0];unfold lnW;simp [e]
  have a3:=h.hd (.inr (.inr e));have a1:=h.a1 (.inr e);by_cases q:v<=x.key
  ·have n1:x.next v = { x with cur:=x.x,line:=5 }:=by unfold Wk.next;simp [e,q]
   have n2:y.step v = { y with a3:=y.a2,line:=3 }:=by unfold Wc.step Wc.beh Wc.behL;simp [e1,q,hk]
   rw [n1,n2];exact ⟨h.c,h.kb,.inr rfl,hk,rfl,h.a0,fun k=>by simp at k,fun k=>by simp at k,fun _=>a1.2,fun k=>by simp at k,fun k=>by simp at k⟩
  ·have n1:x.next v = { x with cur:=zq x.c,line:=5 }:=by unfold Wk.next;simp [e,q,Wk.head]
   have n2:y.step v = { y with line:=3 }:=by unfold Wc.step Wc.beh Wc.behL;simp [e1,q,hk]
   exact Lc
 ·have e1:y.line=3:=by rw [e0];unfold lnW;simp [e]
  have cu:=h.cur (.inl e);have hu:=hv e;by_cases q:atW v=0
  ·have n1:x.next v = { x with n:=0,at_:=x.cur,line:=0 }:=by unfold Wk.next;simp [e,q,Wk.ends]
   have n2:y.step v = { y with line:=5 }:=by unfold Wc.step Wc.beh Wc.behL;simp [e1,hu,q]
   exact Dm
  ·have n1:x.next v = { x with n:=atW v,line:=6 }:=by unfold Wk.next;simp [e,q]
   have n2:y.step v = { y with a4:=atW v,line:=4 }:=by unfold Wc.step Wc.beh Wc.behL;simp [e1,hu,q]
   rw [n1,n2];exact ⟨h.c,h.kb,.inr rfl,hk,rfl,h.a0,fun k=>by simp at k,fun k=>by simp at k,fun _=>cu,fun k=>by simp at k,fun _=>rfl⟩
 ·have e1:y.line=4:=by rw [e0];unfold lnW;simp [e]
  have cu:=h.cur (.inr e);have hn:=h.n e;by_cases q:v<=x.key
  ·have n1:x.next v = { x with cur:=x.n,line:=5 }:=by unfold Wk.next;simp [e,q]
   have q2:¬ x.key<v:=by omega
   have n2:y.step v = { y with a3:=y.a4,line:=3 }:=by unfold Wc.step Wc.beh Wc.behL;simp [e1,q2,hk]
   rw [n1,n2];exact ⟨h.c,h.kb,.inr rfl,hk,rfl,h.a0,fun k=>by simp at k,fun k=>by simp at k,fun _=>hn,fun k=>by simp at k,fun k=>by simp at k⟩
  ·have n1:x.next v = { x with at_:=x.cur,line:=0 }:=by unfold Wk.next;simp [e,q,Wk.ends]
   have q2:x.key<v:=by omega
   have n2:y.step v = { y with line:=5 }:=by unfold Wc.step Wc.beh Wc.behL;simp [e1,q2,hk]
   exact Dm
end Go.Proofs.YtbddhncgemeohaaGreatDoor.Dw
namespace Go.Proofs.YtbddhncgemeohaaGreatDoor.Dw
open Go.RowKit Ar Mx Ch Vw
theorem q1v {v:Int} (h0:0<=v) (h1:v<=9223372036854775807):atU v=atW v:=by unfold atU atW;omega
def q4z (w:World) (b:Nat) (x:Wk):Prop:=∃ y,WkR x y/\Ye w b 70 #[] #[] y
theorem q4z.kept {S:List Nat} {w w':World} {b:Nat} {x:Wk} (h:q4z w b x) (f:Fr S w w') (hb:b∉S):q4z w' b x:=by obtain ⟨y,h1,h2⟩:=h;exact ⟨y,h1,Pb.kept h2 f hb⟩
theorem q4z.up {w w':World} {b:Nat} {x:Wk} (h:q4z w b x) (f:Fr [] w w'):q4z w' b x:=h.kept f Ma
theorem Ue (c:Cf) (hc:c.Ok) (key:Int) (hk:0<=key/\key<=63) (w:World):Calls Tryz.prog 9 #[c.val,.int .i64 key] w fun e w'=>∃ b,e = .returned (.pointer (some ⟨b,0,none⟩))/\w.heap.size<=b/\q4z w' b (Wk.new c key)/\Fr [] w w':=by refine (q9a c hc key hk w).mono ?_;rintro e w' ⟨b,rfl,hb,h,F⟩;exact ⟨b,rfl,hb,⟨_,WkR.new hc hk,h⟩,F⟩
theorem Xp {w:World} {b:Nat} {x:Wk} (h:q4z w b x):Calls Tryz.prog 12 #[.pointer (some ⟨b,0,none⟩)] w fun e w'=>e = .returned (.int .i64 (if x.line=0 then x.at_ else 0))/\w=w':=by
 obtain ⟨y,h1,h2⟩:=h;refine (q4x (o:=0) h2 rfl).mono ?_;rintro e w' ⟨rfl,rfl⟩;by_cases e:x.line=0
 ·rw [qg e,qg (h1.over.2 e),h1.at_ e];exact ⟨rfl,rfl⟩
 ·rw [qf e,qf (fun k=>e (h1.over.1 k))];exact ⟨rfl,rfl⟩
theorem Zl {w:World} {b p q:Nat} {x:Wk} {s:St} (h:q4z w b x) (hf:Fl w) (hA:Ar w p q s) (hne:b≠p/\b≠q) (hg:0≠p/\0≠q) (hv:x.line=5->atU (qx s.l x.looks)=atW (qx s.l x.looks)) :
  Calls Tryz.prog 10 #[.pointer (some ⟨b,0,none⟩),.pointer (some ⟨p,0,none⟩)] w fun e w'=>e = .returned (.bool (decide ((x.step s).1.line=0)))/\q4z w' b (x.step s).1/\Ar w' p q (x.step s).2/\Fr [b,p,q] w w':=by
 obtain ⟨y,h1,h2⟩:=h;refine (q7d (o:=0) h1.bd h2 rfl hf hA hne hg).mono ?_;rintro e w' ⟨rfl,k1,k2,k3⟩;by_cases e:x.line=0
 ·have e5:=h1.over.2 e;have es:x.step s=(x,s):=by unfold Wk.step Wk.live;simp [e]
  rw [qg e5] at k1 k2 ⊢;rw [es];exact ⟨by rw [decide_eq_true e5,decide_eq_true e],⟨y,h1,k1⟩,k2,k3⟩
 ·have e5:¬ y.line=5:=fun k=>e (h1.over.1 k)
  have hl:x.live=true:=by rcases h1.ln with k | k;exact absurd k e;exact k
  have es:x.step s=(x.next (qx s.l x.looks),s.load x.looks):=by unfold Wk.step;rw [qg hl]
  rw [qf e5] at k1 k2 ⊢;rw [h1.looks e] at k1 k2 ⊢;rw [es];have h3:=h1.step e (qx s.l x.looks) hv;refine ⟨?_,⟨_,h3,k1⟩,k2,k3⟩;have:=h3.over;congr 2;exact decide_eq_decide.2 this
def s0:St:=Pl.begun 1 3 100
def c1:Cf:=⟨1,3,100,1000⟩
theorem c1ok:c1.Ok:=⟨by decide,by decide,by decide,by decide,by decide,by decide,by decide,by decide,by decide⟩
def x1:Wk:=Wk.new c1 9
def ju:Nat->Wk->St->Wk×St
 | 0,x,s=>(x,s)
 | n+1,x,s=>let r:=ju n x s;r.1.step r.2
theorem k0:ju 4 x1 s0=(((x1.step s0).1.step (x1.step s0).2).1.step ((x1.step s0).1.step (x1.step s0).2).2).1.step (((x1.step s0).1.step (x1.step s0).2).1.step ((x1.step s0).1.step (x1.step s0).2).2).2:=rfl
theorem l1:(ju 1 x1 s0).1.line=5:=by decide +kernel
theorem l2:(ju 2 x1 s0).1.line=6:=by decide +kernel
theorem l3:(ju 3 x1 s0).1.line=5:=by decide +kernel
theorem l4:(ju 4 x1 s0).1.line=0/\(ju 4 x1 s0).1.at_=15:=by decide +kernel
theorem ac4:(ju 4 x1 s0).2.n=4:=by decide +kernel
theorem v0:x1.line=5->atU (qx s0.l x1.looks)=atW (qx s0.l x1.looks):=by decide +kernel
theorem v1:atU (qx (ju 1 x1 s0).2.l (ju 1 x1 s0).1.looks)=atW (qx (ju 1 x1 s0).2.l (ju 1 x1 s0).1.looks):=by decide +kernel
theorem v2:(ju 2 x1 s0).1.line=5->atU (qx (ju 2 x1 s0).2.l (ju 2 x1 s0).1.looks)=atW (qx (ju 2 x1 s0).2.l (ju 2 x1 s0).1.looks):=by decide +kernel
theorem v3:atU (qx (ju 3 x1 s0).2.l (ju 3 x1 s0).1.looks)=atW (qx (ju 3 x1 s0).2.l (ju 3 x1 s0).1.looks):=by decide +kernel
theorem qe3 {w:World} (t:Fl w):0<w.heap.size:=World.block_lt_of_cell? w _ t.1
theorem wnew1 (w:World):Calls Tryz.prog 9 #[.agg #[.int .i64 1,.int .i64 3,.int .i64 100,.int .i64 1000],.int .i64 9] w fun e w'=>∃ b,e = .returned (.pointer (some ⟨b,0,none⟩))/\w.heap.size<=b/\q4z w' b x1/\Fr [] w w':=Ue c1 c1ok 9 Mg w
theorem U2 (w:World) (t:Fl w):Calls Tryz.prog 5 #[] w fun e w'=>e = .returned (.bool true)/\Fr [] w w':=by
 have isE:=Er.isE;go_enter Tryz.func5,Tryz.ntmps5;go_wp2_with fail;refine (Pl.q85 1 3 100 _).mono ?_;rintro e w1 ⟨rfl,F1⟩;have G:=F1.alloc (.cells #[.int .i64 1,.int .i64 3,.int .i64 100,.int .i64 1000] 23);have oc:=Ob.new w1 23 #[.int .i64 1,.int .i64 3,.int .i64 100,.int .i64 1000];obtain ⟨c0,c1,c2,c3⟩:=Pl.xj oc;have hcw:=oc.lt;have hw1:=F1.size;clear F1;go_wp2_with fail;refine (Pl.q8j 1 3 100 1000 Mg _).mono ?_;rintro e w2 ⟨p,q,rfl,hp,hq,A,F2⟩;rw [Vz] at hp hq;replace oc:=oc.up F2;have hA2:=A.lt;replace G:=G.trans F2;have A:Ar w2 p q s0:=A;clear F2 c0 c1 c2 c3;generalize hbc:w1.heap.size=bc at *;obtain ⟨c0,c1,c2,c3⟩:=Pl.xj oc;have hcl:=oc.lt;have t2:=t.up G;have hflt:=qe3 t;have hG:=G.size;go_wp2_with fail;refine (wnew1 _).mono ?_;rintro e w3 ⟨b,rfl,hb,D,F3⟩;replace A:=A.kept F3;replace oc:=oc.up F3;replace G:=G.trans F3;replace t2:=t2.up F3;have hne:b≠p/\b≠q:=by omega
 have hg:0≠b/\0≠p/\0≠q:=by omega
 have hbc2:bc≠b/\bc≠p/\bc≠q:=by omega
 have hown:w.heap.size<=b/\w.heap.size<=p/\w.heap.size<=q:=by omega
 have HN:=qb (qd hne (qd hg (qd hbc2 hown)));clear F3 c0 c1 c2 c3 t hcw hw1 hp hq hA2 hcl hflt hG hb hne hg hbc2 hown hbc;have HO:=qb oc;have HG:=qb G;have HT:=qb t2;clear oc G t2;go_wp2_with fail;refine (Xp D).mono ?_;rintro e _ ⟨rfl,rfl⟩;rw [show (if x1.line=0 then x1.at_ else 0)=0 from rfl];go_wp2_with fail;refine (Zl D HT.out A HN.out.1 HN.out.2.1.2 v0).mono ?_;rintro e w4 ⟨rfl,D4,A4,F4⟩;have HT4:=qb (HT.out.kept F4 Od);rw [show (decide ((x1.step s0).1.line=0))=false by rw [decide_eq_false_iff_not];have:=l1;change (x1.step s0).1.line=5 at this;omega];clear D A;go_wp2_with fail;refine (Zl D4 HT4.out A4 HN.out.1 HN.out.2.1.2 (fun _=>v1)).mono ?_;rintro e w5 ⟨rfl,D5,A5,F5⟩;have HT5:=qb (HT4.out.kept F5 Od);rw [show (decide (((x1.step s0).1.step (x1.step s0).2).1.line=0))=false by rw [decide_eq_false_iff_not];have:=l2;change ((x1.step s0).1.step (x1.step s0).2).1.line=6 at this;omega];clear D4 A4;go_wp2_with fail;refine (Zl D5 HT5.out A5 HN.out.1 HN.out.2.1.2 v2).mono ?_;rintro e w6 ⟨rfl,D6,A6,F6⟩;have HT6:=qb (HT5.out.kept F6 Od);rw [show (decide ((((x1.step s0).1.step (x1.step s0).2).1.step ((x1.step s0).1.step (x1.step s0).2).2).1.line=0))=false by rw [decide_eq_false_iff_not];have:=l3;change (((x1.step s0).1.step (x1.step s0).2).1.step ((x1.step s0).1.step (x1.step s0).2).2).1.line=5 at this;omega];clear D5 A5;go_wp2_with fail;refine (Zl D6 HT6.out A6 HN.out.1 HN.out.2.1.2 (fun _=>v3)).mono ?_;rintro e w7 ⟨rfl,D7,A7,F7⟩;rw [<- k0] at D7 A7 ⊢;rw [show (decide ((ju 4 x1 s0).1.line=0))=true from decide_eq_true l4.1];have FF:=((F4.trans F5).trans F6).trans F7;have HG7:=qb (HG.out.own FF (by have:=HN.out.2.2.2;simp;omega));have o7:=HO.out.kept FF (by have:=HN.out.2.2.1;simp;omega);have HD:=qb D7;have HA:=qb A7;clear D6 A6 F4 F5 F6 F7 FF D7 A7;obtain ⟨c0,c1,c2,c3⟩:=Pl.xj o7;have j0:=qc c0;have j1:=qc c1;have j2:=qc c2;have j3:=qc c3;clear c0 c1 c2 c3 o7
 have HC:=qb (show ∀ wz,Fr [] w7 wz->Calls Tryz.prog 12 #[.pointer (some ⟨b,0,none⟩)] wz fun e w'=>e = .returned (.int .i64 15)/\wz=w' from fun wz Fz=>by
  have:=Xp (HD.out.up Fz)
  rw [qg l4.1,l4.2] at this
  exact this)
 have HX:=qb (show ∀ wz,Fr [] w7 wz->Calls Tryz.prog 14 #[.pointer (some ⟨p,0,none⟩)] wz fun e w'=>e = .returned (.int .i64 4)/\wz=w' from fun wz Fz=>by
  have:=Yz wz p q _ (HA.out.kept Fz)
  rw [ac4] at this
  exact this)
 have HP:=qb (show ∀ wz,Fr [] w7 wz->Calls Tryz.prog 23 #[.agg #[.int .i64 1,.int .i64 3,.int .i64 100,.int .i64 1000]] wz fun e w'=>e = .returned (.int .i64 15)/\Fr [] wz w' from fun wz Fz=>Pl.Zj 1 3 100 1000 Mg Mg wz);go_wp2_with fail;refine wiq ?_;repeat (go_big_quiet_step ((first | (go_at_call 12;exact Calls.in_same (HC.out _ (In.fr _))) | (go_at_call 14;exact Calls.in_same (HX.out _ (In.fr _))) | (go_at_call 23;exact Calls.in_ (HP.out _ (In.fr _))))))
 refine wpQuiet_nil ?_;intro w8 F8;clear j0 j1 j2 j3 HC HX HP;go_wp2;go_ret;exact ⟨rfl,HG7.out.trans F8⟩
end Go.Proofs.YtbddhncgemeohaaGreatDoor.Dw
