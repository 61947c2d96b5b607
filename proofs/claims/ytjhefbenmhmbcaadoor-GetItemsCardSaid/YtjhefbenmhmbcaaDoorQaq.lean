/- Texts that this proof leans on, one behind the other: Ek1, Ek2, Ek3, Ek4, Dk1, Dk2. -/
import Derived.Test.YtjhefbenmhmbcaaDoorQaa
import Derived.Test.YtjhefbenmhmbcaaDoorQab
import Derived.Test.YtjhefbenmhmbcaaDoorQac
import Derived.Test.YtjhefbenmhmbcaaDoorQam
import Derived.Test.YtjhefbenmhmbcaaDoorQao
import Derived.Test.YtjhefbenmhmbcaaDoorQap
set_option linter.unusedVariables false
set_option linter.unusedSimpArgs false
set_option maxRecDepth 100000
set_option maxHeartbeats 12800000
namespace Go.Proofs.YtjhefbenmhmbcaaDoor.Ek
open Go.RowKit Go.Maps Go.Proofs.YtjhefbenmhmbcaaDoor.Ar Go.Proofs.YtjhefbenmhmbcaaDoor.Mx Go.Proofs.YtjhefbenmhmbcaaDoor.Vw Go.Proofs.YtjhefbenmhmbcaaDoor.Ch
structure Dc where
 most:Int
 chunk:Int
 lo:Int
 hi:Int
 room:Int
 count:Int
 cell:Int
 line:Int
 s:Int
 k:Int
 g:Int
def Dc.cells (y:Dc) (m:Nat):Array Value:=#[.int .i64 y.most,.int .i64 y.chunk,.int .i64 y.lo,.int .i64 y.hi,.int .i64 y.room,.int .i64 y.count,.int .i64 y.cell,.int .i64 y.line,.int .i64 y.s,.int .i64 y.k,.int .i64 y.g,.map (some m)]
structure Pc (w:World) (b o:Nat) (T:TypeId) (pre post cs:Array Value):Prop where
 ho:pre.size=o
 pb:Pb w b T pre post cs
section
variable {w w':World} {S:List Nat} {b o:Nat} {T:TypeId} {pre post cs:Array Value}
theorem Pc.lt (h:Pc w b o T pre post cs):b<w.heap.size:=Pb.lt h.pb
theorem Pc.kept (h:Pc w b o T pre post cs) (f:Fr S w w') (hb:b∉S):Pc w' b o T pre post cs:=⟨h.ho,Pb.kept h.pb f hb⟩
theorem Pc.up (h:Pc w b o T pre post cs) (f:Fr [] w w'):Pc w' b o T pre post cs:=⟨h.ho,Pb.up h.pb f⟩
theorem Pc.frozen (h:Pc w b o T pre post cs) (i:Nat):w.frozen? ⟨b,i,none⟩=false:=Pb.frozen h.pb i
theorem Pc.cell (h:Pc w b o T pre post cs) {i:Nat} {v:Value} (hv:cs[i]? = some v):w.cell? ⟨b,o+i,none⟩=some v:=Pb.cell h.pb h.ho hv
theorem Pc.set (h:Pc w b o T pre post cs) {i:Nat} (v:Value) (hi:i<cs.size):Pc (w.setCell ⟨b,o+i,none⟩ v) b o T pre post (cs.setIfInBounds i v):=⟨h.ho,Pb.set h.pb h.ho hi v⟩
end
abbrev DcAt (w:World) (b o:Nat) (T:TypeId) (pre post:Array Value) (m:Nat) (y:Dc):Prop:=Pc w b o T pre post (y.cells m)
section
variable {o:Nat} {T:TypeId} {pre post:Array Value}
theorem dc_cells {w:World} {b m:Nat} {y:Dc} (h:DcAt w b o T pre post m y):w.cell? ⟨b,o,none⟩=some (.int .i64 y.most)∧w.cell? ⟨b,o+1,none⟩=some (.int .i64 y.chunk)∧w.cell? ⟨b,o+2,none⟩=some (.int .i64 y.lo)∧w.cell? ⟨b,o+3,none⟩=some (.int .i64 y.hi)∧w.cell? ⟨b,o+4,none⟩=some (.int .i64 y.room)∧w.cell? ⟨b,o+5,none⟩=some (.int .i64 y.count)∧w.cell? ⟨b,o+6,none⟩=some (.int .i64 y.cell)∧w.cell? ⟨b,o+7,none⟩=some (.int .i64 y.line)∧w.cell? ⟨b,o+8,none⟩=some (.int .i64 y.s)∧w.cell? ⟨b,o+9,none⟩=some (.int .i64 y.k)∧w.cell? ⟨b,o+10,none⟩=some (.int .i64 y.g)∧w.cell? ⟨b,o+11,none⟩=some (.map (some m)) :=
 ⟨h.cell (i:=0) rfl,h.cell (i:=1) rfl,h.cell (i:=2) rfl,h.cell (i:=3) rfl,h.cell (i:=4) rfl,h.cell (i:=5) rfl,h.cell (i:=6) rfl,h.cell (i:=7) rfl,h.cell (i:=8) rfl,h.cell (i:=9) rfl,h.cell (i:=10) rfl,h.cell (i:=11) rfl⟩
def Dc.stand (y:Dc) (n:Int):Dc:=if y.count≤n then y else { y with cell:=n }
def Dc.standL (y:Dc) (n:Int):Int:=if y.count≤n then 7 else 1
theorem stand_any (y:Dc) (n:Int) (b m:Nat) (w:World) (h:DcAt w b o T pre post m y):Calls Tryd.prog 49 #[.pointer (some ⟨b,o,none⟩),.int .i64 n] w fun e w'=>e = .returned (.int .i64 (y.standL n))∧DcAt w' b o T pre post m (y.stand n)∧Fr [b] w w':=by
 obtain ⟨-,-,-,-,-,c5,c6,-⟩:=dc_cells h
 have z:=h.frozen
 by_cases hn:y.count≤n
 ·have e1:y.stand n=y:=by unfold Dc.stand;rw [if_pos hn]
  have e2:y.standL n=7:=by unfold Dc.standL;rw [if_pos hn]
  rw [e1,e2]
  go_enter Tryd.func49,Tryd.ntmps49
  go_wp2
  go_ret
  exact ⟨rfl,h,Fr.refl _ _⟩
 ·have e1:y.stand n = { y with cell:=n }:=by unfold Dc.stand;rw [if_neg hn]
  have e2:y.standL n=1:=by unfold Dc.standL;rw [if_neg hn]
  rw [e1,e2]
  go_enter Tryd.func49,Tryd.ntmps49
  go_wp2
  go_ret
  exact ⟨rfl,Pc.set h (i:=6) (.int .i64 n) (by show 6<12;omega),Fr.setCell (b:=b) _ (by simp)⟩
theorem next_any (y:Dc) (h0:-1≤y.cell) (h1:y.cell≤1000) (b m:Nat) (w:World) (h:DcAt w b o T pre post m y):Calls Tryd.prog 56 #[.pointer (some ⟨b,o,none⟩)] w fun e w'=>e = .returned (.int .i64 (y.standL (y.cell+1)))∧DcAt w' b o T pre post m (y.stand (y.cell+1))∧Fr [b] w w':=by
 obtain ⟨-,-,-,-,-,-,c6,-⟩:=dc_cells h
 go_enter Tryd.func56,Tryd.ntmps56
 go_wp2_with fail
 refine (stand_any y (y.cell+1) b m _ h).mono ?_;rintro e w1 ⟨rfl,h1,F1⟩
 go_wp2
 go_ret
 exact ⟨rfl,h1,F1⟩
def Dc.on (y:Dc):Dc:=y.stand (y.cell+1)
def Dc.onL (y:Dc):Int:=y.standL (y.cell+1)
theorem behindState_any (y:Dc) (h0:-1≤y.cell) (h1:y.cell≤1000) (b m:Nat) (w:World) (h:DcAt w b o T pre post m y):Calls Tryd.prog 50 #[.pointer (some ⟨b,o,none⟩)] w fun e w'=>e = .returned (.int .i64 (if y.s≠1∧y.s<3 then y.onL else 2))∧DcAt w' b o T pre post m (if y.s≠1∧y.s<3 then y.on else y)∧Fr [b] w w':=by
 obtain ⟨-,-,-,-,-,-,-,-,c8,-⟩:=dc_cells h
 by_cases hc:y.s≠1∧y.s<3
 ·rw [if_pos hc,if_pos hc]
  have b1:(y.s != 1)=true:=by simpa using hc.1
  have b2:decide (y.s<3)=true:=by simpa using hc.2
  have HC:=Lib.hid hc
  clear hc
  go_enter Tryd.func50,Tryd.ntmps50
  go_wp2_with fail
  refine (next_any y h0 h1 b m _ h).mono ?_;rintro e w1 ⟨rfl,h1,F1⟩
  go_wp2
  go_ret
  exact ⟨rfl,h1,F1⟩
 ·rw [if_neg hc,if_neg hc]
  by_cases e1:y.s=1
  ·have HE:=Lib.hid e1
   have b1:(y.s != 1)=false:=by simp [e1]
   clear hc e1
   go_enter Tryd.func50,Tryd.ntmps50
   go_wp2
   go_ret
   exact ⟨rfl,h,Fr.refl _ _⟩
  ·have b1:(y.s != 1)=true:=by simpa using e1
   have b2:decide (y.s<3)=false:=by simp;omega
   clear hc e1
   go_enter Tryd.func50,Tryd.ntmps50
   go_wp2
   go_ret
   exact ⟨rfl,h,Fr.refl _ _⟩
end
section
variable {o:Nat} {T:TypeId} {pre post:Array Value}
def verG (g:Int→Option It) (k:Int):Int:=((g k).map It.v).getD 0
theorem field1 (x y z:Int) (W:World):(Instr.field 26 (.agg #[.int .i64 x,.int .i64 y,.int .i64 z]) 1).run Tryd.prog W = .ok (.int .i64 y) W:=by kernel_rfl
theorem look_is {w:World} {m n:Nat} {g:Int→Option It} (h:GMap w m n (mapG g)) {k:Int} (hk:(Lit.int .i64 k).wf=true):∃ x z,∀ W,Fr [] w W→(Instr.lookup 47 (.map (some m)) (.int .i64 k) false).run Tryd.prog W = .ok (.agg #[.int .i64 x,.int .i64 (verG g k),.int .i64 z]) W:=by
 unfold verG
 cases hg:g k with
 | none=>exact ⟨0,0,fun W F=>by
   have:=GMap.look (h.up F) Tryd.underlying47 (zeroIt W) hk false
   rw [show (mapG g k).getD zeroItV=zeroItV by unfold mapG;rw [hg];rfl] at this
   exact this⟩
 | some it=>exact ⟨it.k,it.d,fun W F=>by
   have:=GMap.look (h.up F) Tryd.underlying47 (zeroIt W) hk false
   rw [show (mapG g k).getD zeroItV=itV it by unfold mapG;rw [hg];rfl] at this
   exact this⟩
def Dc.skips (y:Dc) (g:Int→Option It):Prop:=y.most<verV y.s∨verV y.s<verG g y.k
instance (y:Dc) (g:Int→Option It):Decidable (y.skips g):=by unfold Dc.skips;exact inferInstance
theorem behindVersion_yes (y:Dc) (g:Int→Option It) (hs:y.skips g) (h0:-1≤y.cell) (h1:y.cell≤1000) (hk:(Lit.int .i64 y.k).wf=true) (b m n:Nat) (w:World) (h:DcAt w b o T pre post m y) (hm:GMap w m n (mapG g)) :
  Calls Tryd.prog 62 #[.pointer (some ⟨b,o,none⟩)] w fun e w'=>e = .returned (.int .i64 y.onL)∧DcAt w' b o T pre post m y.on∧Fr [b] w w':=by
 obtain ⟨a,z,hlk⟩:=look_is hm hk
 have HL:=Lib.hid hlk
 clear hlk
 obtain ⟨c0,-,-,-,-,-,-,-,c8,c9,-,c11⟩:=dc_cells h
 have HB:=Lib.hid (And.intro h0 h1)
 clear h0 h1
 by_cases e1:y.most<verV y.s
 ·have q1:decide (verV y.s>y.most)=true:=by simpa using e1
  clear hs e1
  go_enter Tryd.func62,Tryd.ntmps62
  go_wp2_with fail
  refine (version_any y.s _).mono ?_;rintro e w1 ⟨rfl,rfl⟩
  go_wp2_with fail
  refine wiq ?_
  have k0:=In.cell c0
  have k8:=In.cell c8
  have k9:=In.cell c9
  have k11:=In.cell c11
  clear c0 c8 c9 c11
  repeat (go_big_quiet_step (fail))
  refine wpQuiet_nil ?_
  intro w1 F1
  go_wp2_with fail
  refine (next_any y HB.out.1 HB.out.2 b m _ (h.up F1)).mono ?_;rintro e w2 ⟨rfl,h2,F2⟩
  go_wp2
  go_ret
  exact ⟨rfl,h2,(F1.mono).trans F2⟩
 ·have q1:decide (verV y.s>y.most)=false:=by simp;omega
  have q2:decide (verV y.s<verG g y.k)=true:=by
   have:verV y.s<verG g y.k:=hs.resolve_left e1
   simpa using this
  clear hs e1
  go_enter Tryd.func62,Tryd.ntmps62
  go_wp2_with fail
  refine (version_any y.s _).mono ?_;rintro e w1 ⟨rfl,rfl⟩
  go_wp2_with fail
  refine wiq ?_
  have k0:=In.cell c0
  have k8:=In.cell c8
  have k9:=In.cell c9
  have k11:=In.cell c11
  have lk:∀ s:In _,(Instr.lookup 47 (.map (some m)) (.int .i64 y.k) false).run Tryd.prog s.at_ = .ok (.agg #[.int .i64 a,.int .i64 (verG g y.k),.int .i64 z]) s.at_:=fun s=>HL.out s.at_ s.fr
  have fl:=field1 a (verG g y.k) z
  clear c0 c8 c9 c11
  repeat (go_big_quiet_step (fail))
  refine wpQuiet_nil ?_
  intro w1 F1
  go_wp2_with fail
  refine (next_any y HB.out.1 HB.out.2 b m _ (h.up F1)).mono ?_;rintro e w2 ⟨rfl,h2,F2⟩
  go_wp2
  go_ret
  exact ⟨rfl,h2,(F1.mono).trans F2⟩
theorem behindVersion_no (y:Dc) (g:Int→Option It) (hs:¬ y.skips g) (hk:(Lit.int .i64 y.k).wf=true) (b m n:Nat) (w:World) (h:DcAt w b o T pre post m y) (hm:GMap w m n (mapG g)) :
  Calls Tryd.prog 62 #[.pointer (some ⟨b,o,none⟩)] w fun e w'=>e = .returned (.int .i64 6)∧DcAt w' b o T pre post m y∧Fr [b] w w':=by
 obtain ⟨a,z,hlk⟩:=look_is hm hk
 have HL:=Lib.hid hlk
 clear hlk
 obtain ⟨c0,-,-,-,-,-,-,-,c8,c9,-,c11⟩:=dc_cells h
 have q1:decide (verV y.s>y.most)=false:=by
  have:¬ y.most<verV y.s:=fun e=>hs (.inl e)
  simp;omega
 have q2:decide (verV y.s<verG g y.k)=false:=by
  have:¬ verV y.s<verG g y.k:=fun e=>hs (.inr e)
  simp;omega
 clear hs
 go_enter Tryd.func62,Tryd.ntmps62
 go_wp2_with fail
 refine (version_any y.s _).mono ?_;rintro e w1 ⟨rfl,rfl⟩
 go_wp2_with fail
 refine wiq ?_
 have k0:=In.cell c0
 have k8:=In.cell c8
 have k9:=In.cell c9
 have k11:=In.cell c11
 have lk:∀ s:In _,(Instr.lookup 47 (.map (some m)) (.int .i64 y.k) false).run Tryd.prog s.at_ = .ok (.agg #[.int .i64 a,.int .i64 (verG g y.k),.int .i64 z]) s.at_:=fun s=>HL.out s.at_ s.fr
 have fl:=field1 a (verG g y.k) z
 clear c0 c8 c9 c11
 repeat (go_big_quiet_step (fail))
 refine wpQuiet_nil ?_
 intro w1 F1
 go_wp2
 go_ret
 exact ⟨rfl,h.up F1,F1.mono⟩
end
section
variable {o:Nat} {T:TypeId} {pre post:Array Value}
def Dc.verO (y:Dc) (g:Int→Option It):Dc:=if y.skips g then y.on else y
def Dc.verL (y:Dc) (g:Int→Option It):Int:=if y.skips g then y.onL else 6
theorem behindVersion_any (y:Dc) (g:Int→Option It) (h0:-1≤y.cell) (h1:y.cell≤1000) (hk:(Lit.int .i64 y.k).wf=true) (b m n:Nat) (w:World) (h:DcAt w b o T pre post m y) (hm:GMap w m n (mapG g)) :
  Calls Tryd.prog 62 #[.pointer (some ⟨b,o,none⟩)] w fun e w'=>e = .returned (.int .i64 (y.verL g))∧DcAt w' b o T pre post m (y.verO g)∧Fr [b] w w':=by
 unfold Dc.verO Dc.verL
 by_cases hs:y.skips g
 ·rw [if_pos hs,if_pos hs];exact behindVersion_yes y g hs h0 h1 hk b m n w h hm
 ·rw [if_neg hs,if_neg hs];exact behindVersion_no y g hs hk b m n w h hm
def Dc.stO (y:Dc):Dc:=if y.s≠1∧y.s<3 then y.on else y
def Dc.stL (y:Dc):Int:=if y.s≠1∧y.s<3 then y.onL else 2
theorem behindSt_any (y:Dc) (h0:-1≤y.cell) (h1:y.cell≤1000) (b m:Nat) (w:World) (h:DcAt w b o T pre post m y):Calls Tryd.prog 50 #[.pointer (some ⟨b,o,none⟩)] w fun e w'=>e = .returned (.int .i64 y.stL)∧DcAt w' b o T pre post m y.stO∧Fr [b] w w':=behindState_any y h0 h1 b m w h
def Dc.gvO (y:Dc) (g:Int→Option It):Dc:=if y.s<3 then y.on else y.verO g
def Dc.gvL (y:Dc) (g:Int→Option It):Int:=if y.s<3 then y.onL else y.verL g
theorem behindGiven_any (y:Dc) (g:Int→Option It) (h0:-1≤y.cell) (h1:y.cell≤1000) (hk:(Lit.int .i64 y.k).wf=true) (b m n:Nat) (w:World) (h:DcAt w b o T pre post m y) (hm:GMap w m n (mapG g)) :
  Calls Tryd.prog 54 #[.pointer (some ⟨b,o,none⟩)] w fun e w'=>e = .returned (.int .i64 (y.gvL g))∧DcAt w' b o T pre post m (y.gvO g)∧Fr [b] w w':=by
 obtain ⟨-,-,-,-,-,-,-,-,c8,-⟩:=dc_cells h
 have HV:=Lib.hid (behindVersion_any (o:=o) (T:=T) (pre:=pre) (post:=post) y g h0 h1 hk b m n)
 have HN:=Lib.hid (next_any (o:=o) (T:=T) (pre:=pre) (post:=post) y h0 h1 b m)
 unfold Dc.gvO Dc.gvL
 clear h0 h1 hk
 by_cases e1:y.s<3
 ·rw [if_pos e1,if_pos e1]
  have q1:decide (y.s<3)=true:=by simpa using e1
  clear e1
  go_enter Tryd.func54,Tryd.ntmps54
  go_wp2_with fail
  refine (HN.out _ h).mono ?_;rintro e w2 ⟨rfl,h2,F2⟩
  go_wp2
  go_ret
  exact ⟨rfl,h2,F2⟩
 ·rw [if_neg e1,if_neg e1]
  have q1:decide (y.s<3)=false:=by simpa using e1
  clear e1
  go_enter Tryd.func54,Tryd.ntmps54
  go_wp2_with fail
  refine (HV.out _ h hm).mono ?_;rintro e w2 ⟨rfl,h2,F2⟩
  go_wp2
  go_ret
  exact ⟨rfl,h2,F2⟩
def Dc.kyO (y:Dc) (g:Int→Option It):Dc:=if y.k<y.lo∨y.hi<y.k then y.on else if y.s=1 then y else y.verO g
def Dc.kyL (y:Dc) (g:Int→Option It):Int:=if y.k<y.lo∨y.hi<y.k then y.onL else if y.s=1 then 3 else y.verL g
theorem behindKey_any (y:Dc) (g:Int→Option It) (h0:-1≤y.cell) (h1:y.cell≤1000) (hk:¬ (y.k<y.lo∨y.hi<y.k)→(Lit.int .i64 y.k).wf=true) (b m n:Nat) (w:World) (h:DcAt w b o T pre post m y) (hm:GMap w m n (mapG g)) :
  Calls Tryd.prog 51 #[.pointer (some ⟨b,o,none⟩)] w fun e w'=>e = .returned (.int .i64 (y.kyL g))∧DcAt w' b o T pre post m (y.kyO g)∧Fr [b] w w':=by
 obtain ⟨-,-,c2,c3,-,-,-,-,c8,c9,-⟩:=dc_cells h
 have HN:=Lib.hid (next_any (o:=o) (T:=T) (pre:=pre) (post:=post) y h0 h1 b m)
 unfold Dc.kyO Dc.kyL
 by_cases e1:y.k<y.lo∨y.hi<y.k
 ·rw [if_pos e1,if_pos e1]
  clear hk h0 h1
  by_cases e2:y.k<y.lo
  ·have q1:decide (y.k<y.lo)=true:=by simpa using e2
   clear e1 e2
   go_enter Tryd.func51,Tryd.ntmps51
   go_wp2_with fail
   refine wiq ?_
   have k2:=In.cell c2
   have k3:=In.cell c3
   have k9:=In.cell c9
   clear c2 c3 c8 c9
   repeat (go_big_quiet_step (fail))
   refine wpQuiet_nil ?_
   intro w1 F1
   go_wp2_with fail
   refine (HN.out _ (h.up F1)).mono ?_;rintro e w2 ⟨rfl,h2,F2⟩
   go_wp2
   go_ret
   exact ⟨rfl,h2,(F1.mono).trans F2⟩
  ·have q1:decide (y.k<y.lo)=false:=by simpa using e2
   have q2:decide (y.k>y.hi)=true:=by simp;omega
   clear e1 e2
   go_enter Tryd.func51,Tryd.ntmps51
   go_wp2_with fail
   refine wiq ?_
   have k2:=In.cell c2
   have k3:=In.cell c3
   have k9:=In.cell c9
   clear c2 c3 c8 c9
   repeat (go_big_quiet_step (fail))
   refine wpQuiet_nil ?_
   intro w1 F1
   go_wp2_with fail
   refine (HN.out _ (h.up F1)).mono ?_;rintro e w2 ⟨rfl,h2,F2⟩
   go_wp2
   go_ret
   exact ⟨rfl,h2,(F1.mono).trans F2⟩
 ·rw [if_neg e1,if_neg e1]
  have HV:=Lib.hid (behindVersion_any (o:=o) (T:=T) (pre:=pre) (post:=post) y g h0 h1 (hk e1) b m n)
  have q1:decide (y.k<y.lo)=false:=by simp;omega
  have q2:decide (y.k>y.hi)=false:=by simp;omega
  clear e1 hk h0 h1
  by_cases e2:y.s=1
  ·rw [if_pos e2,if_pos e2]
   have q3:(y.s == 1)=true:=by simpa using e2
   clear e2
   go_enter Tryd.func51,Tryd.ntmps51
   go_wp2_with fail
   refine wiq ?_
   have k2:=In.cell c2
   have k3:=In.cell c3
   have k9:=In.cell c9
   repeat (go_big_quiet_step (fail))
   refine wpQuiet_nil ?_
   intro w1 F1
   have h1:=h.up F1
   obtain ⟨-,-,-,-,-,-,-,-,d8,-⟩:=dc_cells h1
   clear c2 c3 c8 c9 k2 k3 k9
   go_wp2
   go_ret
   exact ⟨rfl,h1,F1.mono⟩
  ·rw [if_neg e2,if_neg e2]
   have q3:(y.s == 1)=false:=by simpa using e2
   clear e2
   go_enter Tryd.func51,Tryd.ntmps51
   go_wp2_with fail
   refine wiq ?_
   have k2:=In.cell c2
   have k3:=In.cell c3
   have k9:=In.cell c9
   repeat (go_big_quiet_step (fail))
   refine wpQuiet_nil ?_
   intro w1 F1
   have h1:=h.up F1
   have hm1:=hm.up F1
   obtain ⟨-,-,-,-,-,-,-,-,d8,-⟩:=dc_cells h1
   clear c2 c3 c8 c9 k2 k3 k9
   go_wp2_with fail
   refine (HV.out _ h1 hm1).mono ?_;rintro e w2 ⟨rfl,h2,F2⟩
   go_wp2
   go_ret
   exact ⟨rfl,h2,(F1.mono).trans F2⟩
end
section
variable {o:Nat} {T:TypeId} {pre post:Array Value}
theorem stateP_any (a i:Int) (w:World):Calls Tryd.prog 48 #[.int .i64 a,.int .i64 i] w fun e w'=>e = .returned (.int .i64 (stAt a i))∧w=w':=by
 go_enter Tryd.func48,Tryd.ntmps48
 go_wp2
 go_ret
 exact ret_i (by unfold stAt;first | rw [w64w] | (simp only [w64l,w64r,w64i,w64w]))
theorem Ar.setO {w:World} {p q b i:Nat} {s:St} (h:Ar w p q s) (hp:b≠p) (hq:b≠q) (v:Value):Ar (w.setCell ⟨b,i,none⟩ v) p q s :=
 h.kept (Fr.setCell (S:=[b]) v (List.mem_singleton.2 rfl)) (by simpa using hp.symm) (by simpa using hq.symm)
def DkPost (b o:Nat) (T:TypeId) (pre post:Array Value) (m n p q:Nat) (w:World) (g:Int→Option It) (y:Dc) (ln:Int) (s:St) (e:Ending) (w':World):Prop :=
 e = .returned (.int .i64 ln)∧DcAt w' b o T pre post m y∧Ar w' p q s∧(∃ k,k≤n+1∧GMap w' m k (mapG g))∧Fr [b,m,p,q] w w'
theorem access0 (y:Dc) (g:Int→Option It) (hl:y.line=0) (b m n p q:Nat) (s:St) (w:World) (hne:b≠p∧b≠q∧b≠m∧m≠p∧m≠q) (h:DcAt w b o T pre post m y) (hA:Ar w p q s) (hm:GMap w m n (mapG g)) :
  Calls Tryd.prog 36 #[.pointer (some ⟨b,o,none⟩),.pointer (some ⟨p,0,none⟩)] w (DkPost b o T pre post m n p q w g ({ y with count:=min (max (peek s.l (wrap64 (y.chunk+1))) 0) y.room }.stand 0) ({ y with count:=min (max (peek s.l (wrap64 (y.chunk+1))) 0) y.room }.standL 0) (s.load (wrap64 (y.chunk+1)))):=by
 obtain ⟨c0,c1,c2,c3,c4,c5,c6,c7,c8,c9,c10,c11⟩:=dc_cells h
 rw [hl] at c7
 obtain ⟨hbp,hbq,hbm,hmp,hmq⟩:=hne
 have HY:=Lib.hid hl
 clear hl
 go_enter Tryd.func36,Tryd.ntmps36
 go_wp2_with fail
 refine wiq ?_
 have k1:=In.cell c1
 have k6:=In.cell c6
 repeat (go_big_quiet_step ((go_at_call 48;exact Calls.in_same (stateP_any _ _ _))))
 refine wpQuiet_nil ?_
 intro w1 F1
 clear k1 k6 c0 c1 c2 c3 c4 c5 c6 c7 c8 c9 c10 c11
 replace h:=h.up F1
 replace hA:=hA.kept F1
 replace hm:=hm.up F1
 have D1:Fr [b,m,p,q] w w1:=F1.mono
 clear F1
 obtain ⟨c0,c1,c2,c3,c4,c5,c6,c7,c8,c9,c10,c11⟩:=dc_cells h
 rw [HY.out] at c7
 go_wp2_with fail
 refine wp_region_free (by kernel_rfl) ?_
 refine any_envL [p,q] w1 #[true,true,true,true,true,true,true,true,true,true,true,true,true,true,false,false,false] 14 3 rfl ?_
 refine lpq [true,true,true,true,true,true,true,false,false,true,true,true,true,false,false,false,false] 3 ((Fr.refl _ w1).drew) ?_
 apply Exists.intro
 refine ⟨fun wf Ff=>?_,?_⟩
 ·have hf:DcAt wf b o T pre post m y:=Pc.kept h Ff (by simp;exact ⟨hbp,hbq⟩)
  obtain ⟨-,d1,-,-,d4,-⟩:=dc_cells hf
  have k1:=In.cell d1
  have k4:=In.cell d4
  clear d1 d4
  simp only [sel]
  repeat (go_big_quiet_step (fail))
  exact wpQuiet_nil rfl
 refine loq 7 (fun w3 F3=>?_)
 have D3:=(Fr.refl [] w1).drew.trans F3
 have A3:=hA.kept D3
 have h3:=Pc.up h D3
 have m3:=hm.up D3
 clear hA h hm F3 c0 c1 c2 c3 c4 c5 c6 c7 c8 c9 c10 c11
 go_wp2_with fail
 refine (Ar.load_any _ p q s _ A3).mono ?_;rintro e w4 ⟨rfl,A4,F4⟩
 go_wp2_with fail
 refine nx_normal ⟨(D3.mono).trans F4,?_⟩
 refine lpq [false,false,false,false,false,false,false,false,true,false,false,false,false,true,false,false,false] 0 ((D3.mono).trans F4) ?_
 apply Exists.intro
 refine ⟨fun wf Ff=>?_,?_⟩
 ·simp only [sel]
  repeat (go_big_quiet_step (fail))
  exact wpQuiet_nil rfl
 refine envL_tail (k:=14) rfl (by kernel_rfl) (fun w5 F5=>?_)
 have A5:=A4.kept F5
 have h5:DcAt w5 b o T pre post m y:=(Pc.kept h3 F4 (by simp;exact ⟨hbp,hbq⟩)).up F5
 have m5:=(m3.kept F4 (by simp;exact ⟨hmp,hmq⟩)).up F5
 have D5:Fr [b,m,p,q] w w5:=((frSub D1 D3 (by simp)).trans (F4.mono)).then F5
 clear A3 A4 h3 F4 F5 D3 m3 D1
 have z:=h5.frozen
 obtain ⟨c0,c1,c2,c3,c4,c5,c6,c7,c8,c9,c10,c11⟩:=dc_cells h5
 go_wp2_with fail
 have h6:DcAt _ b o T pre post m { y with count:=(min (max (peek s.l (wrap64 (y.chunk+1))) 0) y.room) }:=Pc.set h5 (i:=5) (.int .i64 (min (max (peek s.l (wrap64 (y.chunk+1))) 0) y.room)) (by show 5<12;omega)
 have A6:=Ar.setO A5 hbp hbq (i:=o+5) (.int .i64 (min (max (peek s.l (wrap64 (y.chunk+1))) 0) y.room))
 have m6:=m5.kept (Fr.setCell (S:=[b]) (b:=b) (i:=o+5) (.int .i64 (min (max (peek s.l (wrap64 (y.chunk+1))) 0) y.room)) (by simp)) (by simp;exact hbm.symm)
 have D6:=D5.setCell' (b:=b) (i:=o+5) (.int .i64 (min (max (peek s.l (wrap64 (y.chunk+1))) 0) y.room)) (by simp)
 clear c0 c1 c2 c3 c4 c5 c6 c7 c8 c9 c10 c11 z h5 A5 m5 D5
 refine (stand_any { y with count:=(min (max (peek s.l (wrap64 (y.chunk+1))) 0) y.room) } 0 b m _ h6).mono ?_;rintro e w7 ⟨rfl,h7,F7⟩
 go_wp2
 go_ret
 exact ⟨rfl,h7,A6.kept F7 (by simp;exact hbp.symm) (by simp;exact hbq.symm),⟨n,Nat.le_succ n,m6.kept F7 (by simp;exact hbm.symm)⟩,frSub D6 F7 (by simp)⟩
theorem access1 (y:Dc) (g:Int→Option It) (hl:y.line=1) (b m n p q:Nat) (s:St) (w:World) (hcl:-1≤y.cell∧y.cell≤1000) (hne:b≠p∧b≠q∧b≠m∧m≠p∧m≠q) (h:DcAt w b o T pre post m y) (hA:Ar w p q s) (hm:GMap w m n (mapG g)) :
  Calls Tryd.prog 36 #[.pointer (some ⟨b,o,none⟩),.pointer (some ⟨p,0,none⟩)] w (DkPost b o T pre post m n p q w g ({ y with s:=(peek s.l (stAt y.chunk y.cell)) }.stO) ({ y with s:=(peek s.l (stAt y.chunk y.cell)) }.stL) (s.load (stAt y.chunk y.cell))):=by
 have HB:=Lib.hid hcl
 clear hcl
 obtain ⟨c0,c1,c2,c3,c4,c5,c6,c7,c8,c9,c10,c11⟩:=dc_cells h
 rw [hl] at c7
 obtain ⟨hbp,hbq,hbm,hmp,hmq⟩:=hne
 have HY:=Lib.hid hl
 clear hl
 go_enter Tryd.func36,Tryd.ntmps36
 go_wp2_with fail
 refine wiq ?_
 have k1:=In.cell c1
 have k6:=In.cell c6
 repeat (go_big_quiet_step ((go_at_call 48;exact Calls.in_same (stateP_any _ _ _))))
 refine wpQuiet_nil ?_
 intro w1 F1
 clear k1 k6 c0 c1 c2 c3 c4 c5 c6 c7 c8 c9 c10 c11
 replace h:=h.up F1
 replace hA:=hA.kept F1
 replace hm:=hm.up F1
 have D1:Fr [b,m,p,q] w w1:=F1.mono
 clear F1
 obtain ⟨c0,c1,c2,c3,c4,c5,c6,c7,c8,c9,c10,c11⟩:=dc_cells h
 rw [HY.out] at c7
 go_wp2_with fail
 refine (Ar.load_any _ p q s _ hA).mono ?_;rintro e w5 ⟨rfl,A5,F4⟩
 have h5:DcAt w5 b o T pre post m y:=Pc.kept h F4 (by simp;exact ⟨hbp,hbq⟩)
 have m5:=hm.kept F4 (by simp;exact ⟨hmp,hmq⟩)
 have D5:Fr [b,m,p,q] w w5:=frSub D1 F4 (by simp)
 clear hA h hm F4 D1 c0 c1 c2 c3 c4 c5 c6 c7 c8 c9 c10 c11
 have z:=h5.frozen
 obtain ⟨c0,c1,c2,c3,c4,c5,c6,c7,c8,c9,c10,c11⟩:=dc_cells h5
 go_wp2_with fail
 have h6:DcAt _ b o T pre post m { y with s:=(peek s.l (stAt y.chunk y.cell)) }:=Pc.set h5 (i:=8) (.int .i64 (peek s.l (stAt y.chunk y.cell))) (by show 8<12;omega)
 have A6:=Ar.setO A5 hbp hbq (i:=o+8) (.int .i64 (peek s.l (stAt y.chunk y.cell)))
 have m6:=m5.kept (Fr.setCell (S:=[b]) (b:=b) (i:=o+8) (.int .i64 (peek s.l (stAt y.chunk y.cell))) (by simp)) (by simp;exact hbm.symm)
 have D6:=D5.setCell' (b:=b) (i:=o+8) (.int .i64 (peek s.l (stAt y.chunk y.cell))) (by simp)
 clear c0 c1 c2 c3 c4 c5 c6 c7 c8 c9 c10 c11 z h5 A5 m5 D5
 refine (behindSt_any { y with s:=(peek s.l (stAt y.chunk y.cell)) } HB.out.1 HB.out.2 b m _ h6).mono ?_;rintro e w7 ⟨rfl,h7,F7⟩
 go_wp2
 go_ret
 exact ⟨rfl,h7,A6.kept F7 (by simp;exact hbp.symm) (by simp;exact hbq.symm),⟨n,Nat.le_succ n,m6.kept F7 (by simp;exact hbm.symm)⟩,frSub D6 F7 (by simp)⟩
theorem access2 (y:Dc) (g:Int→Option It) (hl:y.line=2) (b m n p q:Nat) (s:St) (w:World) (hcl:-1≤y.cell∧y.cell≤1000) (hlo:-9223372036854775808≤y.lo∧y.hi≤9223372036854775807) (hne:b≠p∧b≠q∧b≠m∧m≠p∧m≠q) (h:DcAt w b o T pre post m y) (hA:Ar w p q s) (hm:GMap w m n (mapG g)) :
  Calls Tryd.prog 36 #[.pointer (some ⟨b,o,none⟩),.pointer (some ⟨p,0,none⟩)] w (DkPost b o T pre post m n p q w g ({ y with k:=(peek s.l (wrap64 (stAt y.chunk y.cell+1))) }.kyO g) ({ y with k:=(peek s.l (wrap64 (stAt y.chunk y.cell+1))) }.kyL g) (s.load (wrap64 (stAt y.chunk y.cell+1)))):=by
 have HB:=Lib.hid hcl
 clear hcl
 have HW:=Lib.hid hlo
 clear hlo
 obtain ⟨c0,c1,c2,c3,c4,c5,c6,c7,c8,c9,c10,c11⟩:=dc_cells h
 rw [hl] at c7
 obtain ⟨hbp,hbq,hbm,hmp,hmq⟩:=hne
 have HY:=Lib.hid hl
 clear hl
 go_enter Tryd.func36,Tryd.ntmps36
 go_wp2_with fail
 refine wiq ?_
 have k1:=In.cell c1
 have k6:=In.cell c6
 repeat (go_big_quiet_step ((go_at_call 48;exact Calls.in_same (stateP_any _ _ _))))
 refine wpQuiet_nil ?_
 intro w1 F1
 clear k1 k6 c0 c1 c2 c3 c4 c5 c6 c7 c8 c9 c10 c11
 replace h:=h.up F1
 replace hA:=hA.kept F1
 replace hm:=hm.up F1
 have D1:Fr [b,m,p,q] w w1:=F1.mono
 clear F1
 obtain ⟨c0,c1,c2,c3,c4,c5,c6,c7,c8,c9,c10,c11⟩:=dc_cells h
 rw [HY.out] at c7
 go_wp2_with fail
 refine (Ar.load_any _ p q s _ hA).mono ?_;rintro e w5 ⟨rfl,A5,F4⟩
 have h5:DcAt w5 b o T pre post m y:=Pc.kept h F4 (by simp;exact ⟨hbp,hbq⟩)
 have m5:=hm.kept F4 (by simp;exact ⟨hmp,hmq⟩)
 have D5:Fr [b,m,p,q] w w5:=frSub D1 F4 (by simp)
 clear hA h hm F4 D1 c0 c1 c2 c3 c4 c5 c6 c7 c8 c9 c10 c11
 have z:=h5.frozen
 obtain ⟨c0,c1,c2,c3,c4,c5,c6,c7,c8,c9,c10,c11⟩:=dc_cells h5
 go_wp2_with fail
 have h6:DcAt _ b o T pre post m { y with k:=(peek s.l (wrap64 (stAt y.chunk y.cell+1))) }:=Pc.set h5 (i:=9) (.int .i64 (peek s.l (wrap64 (stAt y.chunk y.cell+1)))) (by show 9<12;omega)
 have A6:=Ar.setO A5 hbp hbq (i:=o+9) (.int .i64 (peek s.l (wrap64 (stAt y.chunk y.cell+1))))
 have m6:=m5.kept (Fr.setCell (S:=[b]) (b:=b) (i:=o+9) (.int .i64 (peek s.l (wrap64 (stAt y.chunk y.cell+1)))) (by simp)) (by simp;exact hbm.symm)
 have D6:=D5.setCell' (b:=b) (i:=o+9) (.int .i64 (peek s.l (wrap64 (stAt y.chunk y.cell+1)))) (by simp)
 clear c0 c1 c2 c3 c4 c5 c6 c7 c8 c9 c10 c11 z h5 A5 m5 D5
 refine (behindKey_any { y with k:=(peek s.l (wrap64 (stAt y.chunk y.cell+1))) } g HB.out.1 HB.out.2 (fun e=>WalkArith.wf_i64 (by have:=HW.out;simp only at e ⊢;omega)) b m n _ h6 m6).mono ?_;rintro e w7 ⟨rfl,h7,F7⟩
 go_wp2
 go_ret
 exact ⟨rfl,h7,A6.kept F7 (by simp;exact hbp.symm) (by simp;exact hbq.symm),⟨n,Nat.le_succ n,m6.kept F7 (by simp;exact hbm.symm)⟩,frSub D6 F7 (by simp)⟩
theorem access3 (y:Dc) (g:Int→Option It) (hl:y.line=3) (b m n p q:Nat) (s:St) (w:World) (hne:b≠p∧b≠q∧b≠m∧m≠p∧m≠q) (h:DcAt w b o T pre post m y) (hA:Ar w p q s) (hm:GMap w m n (mapG g)) :
  Calls Tryd.prog 36 #[.pointer (some ⟨b,o,none⟩),.pointer (some ⟨p,0,none⟩)] w (DkPost b o T pre post m n p q w g { y with g:=(peek s.l 1) } 4 (s.load 1)):=by
 obtain ⟨c0,c1,c2,c3,c4,c5,c6,c7,c8,c9,c10,c11⟩:=dc_cells h
 rw [hl] at c7
 obtain ⟨hbp,hbq,hbm,hmp,hmq⟩:=hne
 have HY:=Lib.hid hl
 clear hl
 go_enter Tryd.func36,Tryd.ntmps36
 go_wp2_with fail
 refine wiq ?_
 have k1:=In.cell c1
 have k6:=In.cell c6
 repeat (go_big_quiet_step ((go_at_call 48;exact Calls.in_same (stateP_any _ _ _))))
 refine wpQuiet_nil ?_
 intro w1 F1
 clear k1 k6 c0 c1 c2 c3 c4 c5 c6 c7 c8 c9 c10 c11
 replace h:=h.up F1
 replace hA:=hA.kept F1
 replace hm:=hm.up F1
 have D1:Fr [b,m,p,q] w w1:=F1.mono
 clear F1
 obtain ⟨c0,c1,c2,c3,c4,c5,c6,c7,c8,c9,c10,c11⟩:=dc_cells h
 rw [HY.out] at c7
 go_wp2_with fail
 refine (Ar.load_any _ p q s _ hA).mono ?_;rintro e w5 ⟨rfl,A5,F4⟩
 have h5:DcAt w5 b o T pre post m y:=Pc.kept h F4 (by simp;exact ⟨hbp,hbq⟩)
 have m5:=hm.kept F4 (by simp;exact ⟨hmp,hmq⟩)
 have D5:Fr [b,m,p,q] w w5:=frSub D1 F4 (by simp)
 clear hA h hm F4 D1 c0 c1 c2 c3 c4 c5 c6 c7 c8 c9 c10 c11
 have z:=h5.frozen
 obtain ⟨c0,c1,c2,c3,c4,c5,c6,c7,c8,c9,c10,c11⟩:=dc_cells h5
 go_wp2_with fail
 have h6:DcAt _ b o T pre post m { y with g:=(peek s.l 1) }:=Pc.set h5 (i:=10) (.int .i64 (peek s.l 1)) (by show 10<12;omega)
 have A6:=Ar.setO A5 hbp hbq (i:=o+10) (.int .i64 (peek s.l 1))
 have m6:=m5.kept (Fr.setCell (S:=[b]) (b:=b) (i:=o+10) (.int .i64 (peek s.l 1)) (by simp)) (by simp;exact hbm.symm)
 have D6:=D5.setCell' (b:=b) (i:=o+10) (.int .i64 (peek s.l 1)) (by simp)
 clear c0 c1 c2 c3 c4 c5 c6 c7 c8 c9 c10 c11 z h5 A5 m5 D5
 go_wp2
 go_ret
 exact ⟨rfl,h6,A6,⟨n,Nat.le_succ n,m6⟩,D6⟩
theorem access4 (y:Dc) (g:Int→Option It) (hl:y.line=4) (b m n p q:Nat) (s:St) (w:World) (t:Word.Tab w) (ht:1≠p∧1≠q) (hne:b≠p∧b≠q∧b≠m∧m≠p∧m≠q) (h:DcAt w b o T pre post m y) (hA:Ar w p q s) (hm:GMap w m n (mapG g)) :
  Calls Tryd.prog 36 #[.pointer (some ⟨b,o,none⟩),.pointer (some ⟨p,0,none⟩)] w (DkPost b o T pre post m n p q w g y 5 (s.swap (stAt y.chunk y.cell) 1 (stateW y.g))):=by
 have HT:=Lib.hid t
 clear t
 obtain ⟨c0,c1,c2,c3,c4,c5,c6,c7,c8,c9,c10,c11⟩:=dc_cells h
 rw [hl] at c7
 obtain ⟨hbp,hbq,hbm,hmp,hmq⟩:=hne
 have HY:=Lib.hid hl
 clear hl
 go_enter Tryd.func36,Tryd.ntmps36
 go_wp2_with fail
 refine wiq ?_
 have k1:=In.cell c1
 have k6:=In.cell c6
 repeat (go_big_quiet_step ((go_at_call 48;exact Calls.in_same (stateP_any _ _ _))))
 refine wpQuiet_nil ?_
 intro w1 F1
 clear k1 k6 c0 c1 c2 c3 c4 c5 c6 c7 c8 c9 c10 c11
 replace h:=h.up F1
 replace hA:=hA.kept F1
 replace hm:=hm.up F1
 have D1:Fr [b,m,p,q] w w1:=F1.mono
 have HT1:=Lib.hid (Gp.tab_up HT.out F1)
 clear F1
 obtain ⟨c0,c1,c2,c3,c4,c5,c6,c7,c8,c9,c10,c11⟩:=dc_cells h
 rw [HY.out] at c7
 go_wp2_with fail
 refine (Gp.state9 _ _ HT1.out).mono ?_;rintro e w2 ⟨rfl,F2⟩
 replace h:=Pc.up h F2
 replace hA:=hA.kept F2
 replace hm:=hm.up F2
 replace D1:=D1.then F2
 clear F2 c0 c1 c2 c3 c4 c5 c6 c7 c8 c9 c10 c11
 go_wp2_with fail
 refine (Ar.swap_any _ p q s _ _ _ hA).mono ?_;rintro e w5 ⟨rfl,A5,F4⟩
 generalize s.can (stAt y.chunk y.cell) 1=val
 go_wp2
 go_ret
 exact ⟨rfl,Pc.kept h F4 (by simp;exact ⟨hbp,hbq⟩),A5,⟨n,Nat.le_succ n,hm.kept F4 (by simp;exact ⟨hmp,hmq⟩)⟩,frSub D1 F4 (by simp)⟩
theorem access5 (y:Dc) (g:Int→Option It) (hl:y.line=5) (b m n p q:Nat) (s:St) (w:World) (hcl:-1≤y.cell∧y.cell≤1000) (hk:(Lit.int .i64 y.k).wf=true) (hne:b≠p∧b≠q∧b≠m∧m≠p∧m≠q) (h:DcAt w b o T pre post m y) (hA:Ar w p q s) (hm:GMap w m n (mapG g)) :
  Calls Tryd.prog 36 #[.pointer (some ⟨b,o,none⟩),.pointer (some ⟨p,0,none⟩)] w (DkPost b o T pre post m n p q w g ({ y with s:=(peek s.l (stAt y.chunk y.cell)) }.gvO g) ({ y with s:=(peek s.l (stAt y.chunk y.cell)) }.gvL g) (s.load (stAt y.chunk y.cell))):=by
 have HB:=Lib.hid hcl
 clear hcl
 have HK:=Lib.hid hk
 clear hk
 obtain ⟨c0,c1,c2,c3,c4,c5,c6,c7,c8,c9,c10,c11⟩:=dc_cells h
 rw [hl] at c7
 obtain ⟨hbp,hbq,hbm,hmp,hmq⟩:=hne
 have HY:=Lib.hid hl
 clear hl
 go_enter Tryd.func36,Tryd.ntmps36
 go_wp2_with fail
 refine wiq ?_
 have k1:=In.cell c1
 have k6:=In.cell c6
 repeat (go_big_quiet_step ((go_at_call 48;exact Calls.in_same (stateP_any _ _ _))))
 refine wpQuiet_nil ?_
 intro w1 F1
 clear k1 k6 c0 c1 c2 c3 c4 c5 c6 c7 c8 c9 c10 c11
 replace h:=h.up F1
 replace hA:=hA.kept F1
 replace hm:=hm.up F1
 have D1:Fr [b,m,p,q] w w1:=F1.mono
 clear F1
 obtain ⟨c0,c1,c2,c3,c4,c5,c6,c7,c8,c9,c10,c11⟩:=dc_cells h
 rw [HY.out] at c7
 go_wp2_with fail
 refine (Ar.load_any _ p q s _ hA).mono ?_;rintro e w5 ⟨rfl,A5,F4⟩
 have h5:DcAt w5 b o T pre post m y:=Pc.kept h F4 (by simp;exact ⟨hbp,hbq⟩)
 have m5:=hm.kept F4 (by simp;exact ⟨hmp,hmq⟩)
 have D5:Fr [b,m,p,q] w w5:=frSub D1 F4 (by simp)
 clear hA h hm F4 D1 c0 c1 c2 c3 c4 c5 c6 c7 c8 c9 c10 c11
 have z:=h5.frozen
 obtain ⟨c0,c1,c2,c3,c4,c5,c6,c7,c8,c9,c10,c11⟩:=dc_cells h5
 go_wp2_with fail
 have h6:DcAt _ b o T pre post m { y with s:=(peek s.l (stAt y.chunk y.cell)) }:=Pc.set h5 (i:=8) (.int .i64 (peek s.l (stAt y.chunk y.cell))) (by show 8<12;omega)
 have A6:=Ar.setO A5 hbp hbq (i:=o+8) (.int .i64 (peek s.l (stAt y.chunk y.cell)))
 have m6:=m5.kept (Fr.setCell (S:=[b]) (b:=b) (i:=o+8) (.int .i64 (peek s.l (stAt y.chunk y.cell))) (by simp)) (by simp;exact hbm.symm)
 have D6:=D5.setCell' (b:=b) (i:=o+8) (.int .i64 (peek s.l (stAt y.chunk y.cell))) (by simp)
 clear c0 c1 c2 c3 c4 c5 c6 c7 c8 c9 c10 c11 z h5 A5 m5 D5
 refine (behindGiven_any { y with s:=(peek s.l (stAt y.chunk y.cell)) } g HB.out.1 HB.out.2 HK.out b m n _ h6 m6).mono ?_;rintro e w7 ⟨rfl,h7,F7⟩
 go_wp2
 go_ret
 exact ⟨rfl,h7,A6.kept F7 (by simp;exact hbp.symm) (by simp;exact hbq.symm),⟨n,Nat.le_succ n,m6.kept F7 (by simp;exact hbm.symm)⟩,frSub D6 F7 (by simp)⟩
def putG (g:Int→Option It) (x:It):Int→Option It:=fun k=>if k=x.k then some x else g k
theorem mapG_in (g:Int→Option It) (x:It):(fun k=>if k=x.k then some (itV x) else mapG g k)=mapG (putG g x):=by
 funext k;unfold mapG putG;split <;> rfl
theorem access6 (y:Dc) (g:Int→Option It) (hl:y.line=6) (b m n p q:Nat) (s:St) (w:World) (hcl:-1≤y.cell∧y.cell≤1000) (hk:(Lit.int .i64 y.k).wf=true) (hn:n<100000) (hne:b≠p∧b≠q∧b≠m∧m≠p∧m≠q) (h:DcAt w b o T pre post m y) (hA:Ar w p q s) (hm:GMap w m n (mapG g)) :
  Calls Tryd.prog 36 #[.pointer (some ⟨b,o,none⟩),.pointer (some ⟨p,0,none⟩)] w (DkPost b o T pre post m n p q w (putG g ⟨y.k,verV y.s,(peek s.l (wrap64 (stAt y.chunk y.cell+2)))⟩) y.on y.onL (s.load (wrap64 (stAt y.chunk y.cell+2)))):=by
 have HB:=Lib.hid hcl
 clear hcl
 have HK:=Lib.hid hk
 clear hk
 obtain ⟨c0,c1,c2,c3,c4,c5,c6,c7,c8,c9,c10,c11⟩:=dc_cells h
 rw [hl] at c7
 obtain ⟨hbp,hbq,hbm,hmp,hmq⟩:=hne
 have HY:=Lib.hid hl
 clear hl
 go_enter Tryd.func36,Tryd.ntmps36
 go_wp2_with fail
 refine wiq ?_
 have k1:=In.cell c1
 have k6:=In.cell c6
 repeat (go_big_quiet_step ((go_at_call 48;exact Calls.in_same (stateP_any _ _ _))))
 refine wpQuiet_nil ?_
 intro w1 F1
 clear k1 k6 c0 c1 c2 c3 c4 c5 c6 c7 c8 c9 c10 c11
 replace h:=h.up F1
 replace hA:=hA.kept F1
 replace hm:=hm.up F1
 have D1:Fr [b,m,p,q] w w1:=F1.mono
 clear F1
 obtain ⟨c0,c1,c2,c3,c4,c5,c6,c7,c8,c9,c10,c11⟩:=dc_cells h
 rw [HY.out] at c7
 go_wp2_with fail
 refine wp_region_env (by kernel_rfl) [p,q,m] (fun w2 F2=>?_)
 refine epq [true,true,true,true,true,true,true,true,true,true,true,true,true,true,true,true,true,true,true,true,false,false,false] 3 (F2.mono) ?_
 apply Exists.intro
 refine ⟨fun wf Ff=>?_,?_⟩
 ·have hf:DcAt wf b o T pre post m y:=Pc.kept h Ff (by simp;exact ⟨hbp,hbq,hbm⟩)
  obtain ⟨-,-,-,-,-,-,-,-,d8,d9,-,d11⟩:=dc_cells hf
  have k8:=In.cell d8
  have k9:=In.cell d9
  have k11:=In.cell d11
  clear d8 d9 d11
  simp only [sel]
  repeat (go_big_quiet_step ((go_at_call 55;exact Calls.in_same (version_any _ _))))
  exact wpQuiet_nil rfl
 refine eoq 20 (fun w3 F3=>?_)
 have D3:=F2.then F3
 replace h:=Pc.up h D3
 replace hA:=hA.kept D3
 replace hm:=hm.up D3
 have E3:=D3
 clear F2 F3 D3 c0 c1 c2 c3 c4 c5 c6 c7 c8 c9 c10 c11
 go_wp2_with fail
 refine (Ar.load_any _ p q s _ hA).mono ?_;rintro e w4 ⟨rfl,A4,F4⟩
 replace h:=Pc.kept h F4 (by simp;exact ⟨hbp,hbq⟩)
 replace hm:=hm.kept F4 (by simp;exact ⟨hmp,hmq⟩)
 have E4:Fr [p,q,m] w1 w4:=(E3.mono).trans (F4.mono)
 clear hA F4 E3
 go_wp2_with fail
 refine nx_normal ⟨E4,?_⟩
 refine eoq 21 (fun w5 F5=>?_)
 have E5:=E4.then F5
 replace h:=Pc.up h F5
 replace hm:=hm.up F5
 replace A4:=A4.kept F5
 clear E4 F5
 go_wp2_with fail
 refine nx_normal ⟨E5,?_⟩
 refine eoq 22 (fun w6 F6=>?_)
 have E6:=E5.then F6
 replace h:=Pc.up h F6
 replace hm:=hm.up F6
 replace A4:=A4.kept F6
 clear E5 F6
 obtain ⟨w8,r8,G8,F8⟩:=GMap.put hm Tryd.underlying47 (by unfold maxLen;omega) HK.out (itV ⟨y.k,verV y.s,(peek s.l (wrap64 (stAt y.chunk y.cell+2)))⟩)
 rw [mapG_in g ⟨y.k,verV y.s,(peek s.l (wrap64 (stAt y.chunk y.cell+2)))⟩] at G8
 unfold itV at r8
 go_wp2_with fail
 have E8:Fr [p,q,m] w1 w8:=(E6.mono).trans (F8.mono)
 refine nx_normal ⟨E8,?_⟩
 refine env_done (by kernel_rfl) (fun w9 F9=>?_)
 have h9:DcAt w9 b o T pre post m y:=(Pc.kept h F8 (by simp;exact hbm)).up F9
 have A9:=(A4.kept F8 (by simp;exact hmp.symm) (by simp;exact hmq.symm)).kept F9 (by simp) (by simp)
 have G9:=G8.up F9
 have E9:Fr [b,m,p,q] w w9:=(frSub D1 E8 (by simp)).then F9
 clear r8 G8 F8 F9 E8 E6 A4 h hm D1
 go_wp2_with fail
 refine (next_any y HB.out.1 HB.out.2 b m _ h9).mono ?_;rintro e w7 ⟨rfl,h7,F7⟩
 go_wp2
 go_ret
 exact ⟨rfl,h7,A9.kept F7 (by simp;exact hbp.symm) (by simp;exact hbq.symm),⟨n+1,Nat.le_refl _,G9.kept F7 (by simp;exact hbm.symm)⟩,frSub E9 F7 (by simp)⟩
end
end Go.Proofs.YtjhefbenmhmbcaaDoor.Ek
namespace Go.Proofs.YtjhefbenmhmbcaaDoor.Dk
open Go.RowKit Go.Maps Go.Proofs.YtjhefbenmhmbcaaDoor.Ar Go.Proofs.YtjhefbenmhmbcaaDoor.Mx Go.Proofs.YtjhefbenmhmbcaaDoor.Vw Go.Proofs.YtjhefbenmhmbcaaDoor.Ch
structure Dc where
 most:Int
 chunk:Int
 lo:Int
 hi:Int
 room:Int
 count:Int
 cell:Int
 line:Int
 s:Int
 k:Int
 g:Int
def verG (g:Int→Option It) (k:Int):Int:=((g k).map It.v).getD 0
def Dc.skips (y:Dc) (g:Int→Option It):Prop:=y.most<verV y.s∨verV y.s<verG g y.k
instance (y:Dc) (g:Int→Option It):Decidable (y.skips g):=by unfold Dc.skips;exact inferInstance
end Go.Proofs.YtjhefbenmhmbcaaDoor.Dk
