/- Parts. -/
import Derived.Test.YtaccfepnhmgagaaGreatDoorVam
import Derived.Test.YtaccfepnhmgagaaGreatDoorVav
import Derived.Test.YtaccfepnhmgagaaGreatDoorVbd
import Derived.Test.YtaccfepnhmgagaaGreatDoorVbl
import Derived.Test.YtaccfepnhmgagaaGreatDoorVbe
import Derived.Test.YtaccfepnhmgagaaGreatDoorMaa
import Derived.Test.YtaccfepnhmgagaaGreatDoorVab
import Derived.Test.YtaccfepnhmgagaaGreatDoorVbh
import Derived.Test.YtaccfepnhmgagaaGreatDoorVaa
import Derived.Test.YtaccfepnhmgagaaGreatDoorVac
import Derived.WideKeyPair
import Derived.DeepKeys4
import Derived.Test.YtaccfepnhmgagaaGreatDoorVag
import Derived.Test.YtaccfepnhmgagaaGreatDoorVal
import Derived.Sort.MapsRangeIn
import Derived.Test.YtaccfepnhmgagaaGreatDoorVax
import Derived.Test.YtaccfepnhmgagaaGreatDoorVbj
set_option linter.unusedVariables false
set_option linter.unusedSimpArgs false
set_option maxRecDepth 100000
namespace Go.Proofs.YtaccfepnhmgagaaGreatDoor.Mx
open Go.RowKit Go.Proofs.YtaccfepnhmgagaaGreatDoor.Ar
set_option linter.unusedVariables false
set_option linter.unusedSimpArgs false
theorem Gs.set {w:World} {ss:List Sv} {gs:List (List It)} (h:Gs w ss gs) {s:Sv} {g:List It} (hs:Sq fT w s.v g) (n:Nat):Gs w (ss.set n s) (gs.set n g):=by
 refine ⟨by simp [h.1],fun i t k e1 e2=>?_⟩
 by_cases hi:i=n
 ·subst hi
  have h1:=(List.getElem?_eq_some_iff.1 e1).1
  have h2:=(List.getElem?_eq_some_iff.1 e2).1
  rw [List.length_set] at h1 h2
  rw [List.getElem?_set_self h1] at e1
  rw [List.getElem?_set_self h2] at e2
  cases e1;cases e2;exact hs
 ·rw [List.getElem?_set_ne (fun e=>hi e.symm)] at e1 e2
  exact h.2 i t k e1 e2
end Go.Proofs.YtaccfepnhmgagaaGreatDoor.Mx
namespace Go.Proofs.YtaccfepnhmgagaaGreatDoor.Mx
open Go.RowKit Go.Proofs.YtaccfepnhmgagaaGreatDoor.Ar Go.Proofs.YtaccfepnhmgagaaGreatDoor.Ref Go.Proofs.YtaccfepnhmgagaaGreatDoor.Og Go.Proofs.YtaccfepnhmgagaaGreatDoor.Mp
set_option linter.unusedVariables false
set_option linter.unusedSimpArgs false
section
variable {α:Type} {f:α→List Value} {sz:Nat}
end
theorem FrO.fr {W w:World} (h:FrO W.heap.size W w):Fr [] W w:=by obtain ⟨S,h1,h2⟩:=h;exact (Fr.refl [] W).own h2 h1
end Go.Proofs.YtaccfepnhmgagaaGreatDoor.Mx
namespace Go.Proofs.YtaccfepnhmgagaaGreatDoor.Wd
open Go.RowKit Go.Proofs.YtaccfepnhmgagaaGreatDoor.Ar Go.Proofs.YtaccfepnhmgagaaGreatDoor.Og Go.Proofs.YtaccfepnhmgagaaGreatDoor.Ref Go.Proofs.YtaccfepnhmgagaaGreatDoor.Mx Go.Proofs.YtaccfepnhmgagaaGreatDoor.Op10
set_option linter.unusedVariables false
set_option linter.unusedSimpArgs false
theorem blk_lt {w:World} {α:Type} {f:α→List Value} {v:Value} {xs:List α} (h:Sq f w v xs) (hne:xs≠[]):∀ k,k∈v.ownBlock.toList→k<w.heap.size:=Qy h hne
theorem scr_in {w:World} {c:Cf} {rs:List (List O)} {ss:List Sv} {ps ds:List Int} {vo vp vd:Value} (h1:Rws w vo rs ss) (h2:Law.Ints w .i64 vp ps) (h3:Sq fI w vp ps) (h4:Law.Ints w .i64 vd ds) (h5:Sq fI w vd ds) :
  q52 w (.agg #[.int .i64 c.t,.int .i64 c.c,.int .i64 c.wd,.int .i64 c.v,vo,vp,vd]) c rs ps ds vo vp vd ss (List.range w.heap.size):=by
 refine ⟨rfl,⟨vo,vp,vd,rfl,h1.r,h2,h4⟩,⟨h1.sq,h1.len,fun i s r e1 e2=>⟨h1.row i s r e1 e2,fun hne k hk=>List.mem_range.2 (blk_lt (h1.row i s r e1 e2) hne k hk)⟩,fun hne k hk=>List.mem_range.2 (blk_lt h1.sq (fun e=>hne (by have:=h1.len;rw [e] at this;exact List.eq_nil_of_length_eq_zero this.symm)) k hk)⟩,h5,fun hne k hk=>List.mem_range.2 (blk_lt h5 hne k hk),h3,fun k hk=>List.mem_range.1 hk⟩
end Go.Proofs.YtaccfepnhmgagaaGreatDoor.Wd
namespace Go.Proofs.YtaccfepnhmgagaaGreatDoor.Gp_u
open Go.RowKit Go.Maps Go.Proofs.YtaccfepnhmgagaaGreatDoor.Ar Go.Proofs.YtaccfepnhmgagaaGreatDoor.Mx
set_option linter.unusedVariables false
set_option linter.unusedSimpArgs false
theorem tab_kept {S:List Nat} {w w':World} (t:Word.Tab w) (f:Fr S w w') (h:1∉S):Word.Tab w':=by
 obtain ⟨t0,t1,t2,t3,t4,t5,t6,t7,t8,t9,t10,t11⟩:=t
 exact ⟨f.cell t0 h,f.cell t1 h,f.cell t2 h,f.cell t3 h,f.cell t4 h,f.cell t5 h,f.cell t6 h,f.cell t7 h,f.cell t8 h,f.cell t9 h,f.cell t10 h,f.cell t11 h⟩
theorem tab_up {w w':World} (t:Word.Tab w) (f:Fr [] w w'):Word.Tab w':=tab_kept t f (by simp)
theorem fr_dr {w w':World} (h:Word.Dr w w'):Fr [] w w':=by obtain ⟨m,rfl⟩:=h;exact (Fr.refl [] w).drewN m
theorem stateI_eq (v:Int):Word.qdy v=yc v:=by unfold Word.qdy Word.Q5 yc hd;split <;> split <;> omega
theorem state9 (v:Int) (w:World) (t:Word.Tab w):Calls Tryz.prog 85 #[.int .i64 v] w fun e w'=>e = .returned (.int .i64 (yc v))∧Fr [] w w' :=
 (Word.Qt v w t).mono fun e w' ⟨h,d⟩=>⟨by rw [h,stateI_eq],fr_dr d⟩
end Go.Proofs.YtaccfepnhmgagaaGreatDoor.Gp_u
namespace Go.Proofs.YtaccfepnhmgagaaGreatDoor.Dk_u
open Go.RowKit Go.Maps Go.Proofs.YtaccfepnhmgagaaGreatDoor.Ar Go.Proofs.YtaccfepnhmgagaaGreatDoor.Mx Go.Proofs.YtaccfepnhmgagaaGreatDoor.Vw Go.Proofs.YtaccfepnhmgagaaGreatDoor.Ch
set_option linter.unusedVariables false
set_option linter.unusedSimpArgs false
structure Dc_u where
 most:Int
 chunk:Int
 lo:Int
 hi:Int
 room:Int
 count:Int
 cell:Int
 line:Int
 s:Int
 k:Int
 g:Int
def Dc_u.cells (y:Dc_u) (m:Nat):Array Value:=#[.int .i64 y.most,.int .i64 y.chunk,.int .i64 y.lo,.int .i64 y.hi,.int .i64 y.room,.int .i64 y.count,.int .i64 y.cell,.int .i64 y.line,.int .i64 y.s,.int .i64 y.k,.int .i64 y.g,.map (some m)]
abbrev DcAt (w:World) (b m:Nat) (y:Dc_u):Prop:=Ob w b 131 (y.cells m)
theorem dc_cells {w:World} {b m:Nat} {y:Dc_u} (h:DcAt w b m y):w.cell? ⟨b,0,none⟩=some (.int .i64 y.most)∧w.cell? ⟨b,1,none⟩=some (.int .i64 y.chunk)∧w.cell? ⟨b,2,none⟩=some (.int .i64 y.lo)∧w.cell? ⟨b,3,none⟩=some (.int .i64 y.hi)∧w.cell? ⟨b,4,none⟩=some (.int .i64 y.room)∧w.cell? ⟨b,5,none⟩=some (.int .i64 y.count)∧w.cell? ⟨b,6,none⟩=some (.int .i64 y.cell)∧w.cell? ⟨b,7,none⟩=some (.int .i64 y.line)∧w.cell? ⟨b,8,none⟩=some (.int .i64 y.s)∧w.cell? ⟨b,9,none⟩=some (.int .i64 y.k)∧w.cell? ⟨b,10,none⟩=some (.int .i64 y.g)∧w.cell? ⟨b,11,none⟩=some (.map (some m)) :=
 ⟨Ob.cell h rfl,Ob.cell h rfl,Ob.cell h rfl,Ob.cell h rfl,Ob.cell h rfl,Ob.cell h rfl,Ob.cell h rfl,Ob.cell h rfl,Ob.cell h rfl,Ob.cell h rfl,Ob.cell h rfl,Ob.cell h rfl⟩
def Dc_u.stand (y:Dc_u) (n:Int):Dc_u:=if y.count≤n then y else { y with cell:=n }
def Dc_u.standL (y:Dc_u) (n:Int):Int:=if y.count≤n then 7 else 1
theorem stand_any (y:Dc_u) (n:Int) (b m:Nat) (w:World) (h:DcAt w b m y):Calls Tryz.prog 119 #[.pointer (some ⟨b,0,none⟩),.int .i64 n] w fun e w'=>e = .returned (.int .i64 (y.standL n))∧DcAt w' b m (y.stand n)∧Fr [b] w w':=by
 obtain ⟨-,-,-,-,-,c5,c6,-⟩:=dc_cells h
 have z:=h.frozen
 by_cases hn:y.count≤n
 ·have e1:y.stand n=y:=by unfold Dc_u.stand;rw [qf hn]
  have e2:y.standL n=7:=by unfold Dc_u.standL;rw [qf hn]
  rw [e1,e2]
  go_enter Tryz.func119,Tryz.ntmps119
  go_wp2
  go_ret
  exact ⟨rfl,h,Fr.refl _ _⟩
 ·have e1:y.stand n = { y with cell:=n }:=by unfold Dc_u.stand;rw [qd hn]
  have e2:y.standL n=1:=by unfold Dc_u.standL;rw [qd hn]
  rw [e1,e2]
  go_enter Tryz.func119,Tryz.ntmps119
  go_wp2
  go_ret
  exact ⟨rfl,h.set (i:=6) (.int .i64 n),Fr.setCell (b:=b) _ (by simp)⟩
theorem Vo (y:Dc_u) (h0:-1≤y.cell) (h1:y.cell≤1000) (b m:Nat) (w:World) (h:DcAt w b m y):Calls Tryz.prog 123 #[.pointer (some ⟨b,0,none⟩)] w fun e w'=>e = .returned (.int .i64 (y.standL (y.cell+1)))∧DcAt w' b m (y.stand (y.cell+1))∧Fr [b] w w':=by
 obtain ⟨-,-,-,-,-,-,c6,-⟩:=dc_cells h
 go_enter Tryz.func123,Tryz.ntmps123
 go_wp2_with fail
 refine (stand_any y (y.cell+1) b m _ h).mono ?_;rintro e w1 ⟨rfl,h1,F1⟩
 go_wp2
 go_ret
 exact ⟨rfl,h1,F1⟩
def Dc_u.on (y:Dc_u):Dc_u:=y.stand (y.cell+1)
def Dc_u.onL (y:Dc_u):Int:=y.standL (y.cell+1)
theorem behindState_any (y:Dc_u) (h0:-1≤y.cell) (h1:y.cell≤1000) (b m:Nat) (w:World) (h:DcAt w b m y):Calls Tryz.prog 120 #[.pointer (some ⟨b,0,none⟩)] w fun e w'=>e = .returned (.int .i64 (if y.s≠1∧y.s<3 then y.onL else 2))∧DcAt w' b m (if y.s≠1∧y.s<3 then y.on else y)∧Fr [b] w w':=by
 obtain ⟨-,-,-,-,-,-,-,-,c8,-⟩:=dc_cells h
 by_cases hc:y.s≠1∧y.s<3
 ·rw [qf hc,qf hc]
  have b1:(y.s != 1)=true:=by simpa using hc.1
  have b2:decide (y.s<3)=true:=by simpa using hc.2
  have HC:=q9 hc
  clear hc
  go_enter Tryz.func120,Tryz.ntmps120
  go_wp2_with fail
  refine (Vo y h0 h1 b m _ h).mono ?_;rintro e w1 ⟨rfl,h1,F1⟩
  go_wp2
  go_ret
  exact ⟨rfl,h1,F1⟩
 ·rw [qd hc,qd hc]
  by_cases e1:y.s=1
  ·have HE:=q9 e1
   have b1:(y.s != 1)=false:=by simp [e1]
   clear hc e1
   go_enter Tryz.func120,Tryz.ntmps120
   go_wp2
   go_ret
   exact ⟨rfl,h,Fr.refl _ _⟩
  ·have b1:(y.s != 1)=true:=by simpa using e1
   have b2:decide (y.s<3)=false:=by simp;omega
   clear hc e1
   go_enter Tryz.func120,Tryz.ntmps120
   go_wp2
   go_ret
   exact ⟨rfl,h,Fr.refl _ _⟩
end Go.Proofs.YtaccfepnhmgagaaGreatDoor.Dk_u
namespace Go.Proofs.YtaccfepnhmgagaaGreatDoor.Dk_u
open Go.RowKit Go.Maps Go.Proofs.YtaccfepnhmgagaaGreatDoor.Ar Go.Proofs.YtaccfepnhmgagaaGreatDoor.Mx Go.Proofs.YtaccfepnhmgagaaGreatDoor.Vw Go.Proofs.YtaccfepnhmgagaaGreatDoor.Ch
set_option linter.unusedVariables false
set_option linter.unusedSimpArgs false
def verG (g:Int→Option It) (k:Int):Int:=((g k).map It.v).getD 0
theorem field1 (x y z:Int) (W:World):(Instr.field 65 (.agg #[.int .i64 x,.int .i64 y,.int .i64 z]) 1).run Tryz.prog W = .ok (.int .i64 y) W:=by kernel_rfl
theorem look_is {w:World} {m n:Nat} {g:Int→Option It} (h:GMap w m n (mapG g)) {k:Int} (hk:(Lit.int .i64 k).wf=true):∃ x z,∀ W,Fr [] w W→(Instr.lookup 129 (.map (some m)) (.int .i64 k) false).run Tryz.prog W = .ok (.agg #[.int .i64 x,.int .i64 (verG g k),.int .i64 z]) W:=by
 unfold verG
 cases hg:g k with
 | none=>exact ⟨0,0,fun W F=>by
   have:=GMap.look (h.up F) Tryz.underlying129 (zeroIt W) hk false
   rw [show (mapG g k).getD zeroItV=zeroItV by unfold mapG;rw [hg];rfl] at this
   exact this⟩
 | some it=>exact ⟨it.k,it.d,fun W F=>by
   have:=GMap.look (h.up F) Tryz.underlying129 (zeroIt W) hk false
   rw [show (mapG g k).getD zeroItV=itV it by unfold mapG;rw [hg];rfl] at this
   exact this⟩
def Dc_u.skips (y:Dc_u) (g:Int→Option It):Prop:=y.most<verV y.s∨verV y.s<verG g y.k
instance (y:Dc_u) (g:Int→Option It):Decidable (y.skips g):=by unfold Dc_u.skips;exact inferInstance
set_option maxHeartbeats 1600000 in
theorem behindVersion_yes (y:Dc_u) (g:Int→Option It) (hs:y.skips g) (h0:-1≤y.cell) (h1:y.cell≤1000) (hk:(Lit.int .i64 y.k).wf=true) (b m n:Nat) (w:World) (h:DcAt w b m y) (hm:GMap w m n (mapG g)) :
  Calls Tryz.prog 145 #[.pointer (some ⟨b,0,none⟩)] w fun e w'=>e = .returned (.int .i64 y.onL)∧DcAt w' b m y.on∧Fr [b] w w':=by
 obtain ⟨a,z,hlk⟩:=look_is hm hk
 have HL:=q9 hlk
 clear hlk
 obtain ⟨c0,-,-,-,-,-,-,-,c8,c9,-,c11⟩:=dc_cells h
 have HB:=q9 (qc h0 h1)
 clear h0 h1
 by_cases e1:y.most<verV y.s
 ·have q1:decide (verV y.s>y.most)=true:=by simpa using e1
  clear hs e1
  go_enter Tryz.func145,Tryz.ntmps145
  go_wp2_with fail
  refine (qal y.s _).mono ?_;rintro e w1 ⟨rfl,rfl⟩
  go_wp2_with fail
  refine Ru (by kernel_rfl) (by kernel_rfl) ?_
  have k0:=qb c0
  have k8:=qb c8
  have k9:=qb c9
  have k11:=qb c11
  clear c0 c8 c9 c11
  repeat (go_big_quiet_step (fail))
  refine wpQuiet_nil ?_
  intro w1 F1
  go_wp2_with fail
  refine (Vo y HB.out.1 HB.out.2 b m _ (h.up F1)).mono ?_;rintro e w2 ⟨rfl,h2,F2⟩
  go_wp2
  go_ret
  exact ⟨rfl,h2,(F1.mono (by simp)).trans F2⟩
 ·have q1:decide (verV y.s>y.most)=false:=by simp;omega
  have q2:decide (verV y.s<verG g y.k)=true:=by
   have:verV y.s<verG g y.k:=hs.resolve_left e1
   simpa using this
  clear hs e1
  go_enter Tryz.func145,Tryz.ntmps145
  go_wp2_with fail
  refine (qal y.s _).mono ?_;rintro e w1 ⟨rfl,rfl⟩
  go_wp2_with fail
  refine Ru (by kernel_rfl) (by kernel_rfl) ?_
  have k0:=qb c0
  have k8:=qb c8
  have k9:=qb c9
  have k11:=qb c11
  have lk:∀ s:In _,(Instr.lookup 129 (.map (some m)) (.int .i64 y.k) false).run Tryz.prog s.at_ = .ok (.agg #[.int .i64 a,.int .i64 (verG g y.k),.int .i64 z]) s.at_:=fun s=>HL.out s.at_ s.fr
  have fl:=field1 a (verG g y.k) z
  clear c0 c8 c9 c11
  repeat (go_big_quiet_step (fail))
  refine wpQuiet_nil ?_
  intro w1 F1
  go_wp2_with fail
  refine (Vo y HB.out.1 HB.out.2 b m _ (h.up F1)).mono ?_;rintro e w2 ⟨rfl,h2,F2⟩
  go_wp2
  go_ret
  exact ⟨rfl,h2,(F1.mono (by simp)).trans F2⟩
set_option maxHeartbeats 1600000 in
theorem behindVersion_no (y:Dc_u) (g:Int→Option It) (hs:¬ y.skips g) (hk:(Lit.int .i64 y.k).wf=true) (b m n:Nat) (w:World) (h:DcAt w b m y) (hm:GMap w m n (mapG g)) :
  Calls Tryz.prog 145 #[.pointer (some ⟨b,0,none⟩)] w fun e w'=>e = .returned (.int .i64 6)∧DcAt w' b m y∧Fr [b] w w':=by
 obtain ⟨a,z,hlk⟩:=look_is hm hk
 have HL:=q9 hlk
 clear hlk
 obtain ⟨c0,-,-,-,-,-,-,-,c8,c9,-,c11⟩:=dc_cells h
 have q1:decide (verV y.s>y.most)=false:=by
  have:¬ y.most<verV y.s:=fun e=>hs (.inl e)
  simp;omega
 have q2:decide (verV y.s<verG g y.k)=false:=by
  have:¬ verV y.s<verG g y.k:=fun e=>hs (.inr e)
  simp;omega
 clear hs
 go_enter Tryz.func145,Tryz.ntmps145
 go_wp2_with fail
 refine (qal y.s _).mono ?_;rintro e w1 ⟨rfl,rfl⟩
 go_wp2_with fail
 refine Ru (by kernel_rfl) (by kernel_rfl) ?_
 have k0:=qb c0
 have k8:=qb c8
 have k9:=qb c9
 have k11:=qb c11
 have lk:∀ s:In _,(Instr.lookup 129 (.map (some m)) (.int .i64 y.k) false).run Tryz.prog s.at_ = .ok (.agg #[.int .i64 a,.int .i64 (verG g y.k),.int .i64 z]) s.at_:=fun s=>HL.out s.at_ s.fr
 have fl:=field1 a (verG g y.k) z
 clear c0 c8 c9 c11
 repeat (go_big_quiet_step (fail))
 refine wpQuiet_nil ?_
 intro w1 F1
 go_wp2
 go_ret
 exact ⟨rfl,h.up F1,F1.mono (by simp)⟩
end Go.Proofs.YtaccfepnhmgagaaGreatDoor.Dk_u
namespace Go.Proofs.YtaccfepnhmgagaaGreatDoor.Dk_u
open Go.RowKit Go.Maps Go.Proofs.YtaccfepnhmgagaaGreatDoor.Ar Go.Proofs.YtaccfepnhmgagaaGreatDoor.Mx Go.Proofs.YtaccfepnhmgagaaGreatDoor.Vw Go.Proofs.YtaccfepnhmgagaaGreatDoor.Ch
set_option linter.unusedVariables false
set_option linter.unusedSimpArgs false
def Dc_u.verO (y:Dc_u) (g:Int→Option It):Dc_u:=if y.skips g then y.on else y
def Dc_u.verL (y:Dc_u) (g:Int→Option It):Int:=if y.skips g then y.onL else 6
theorem behindVersion_any (y:Dc_u) (g:Int→Option It) (h0:-1≤y.cell) (h1:y.cell≤1000) (hk:(Lit.int .i64 y.k).wf=true) (b m n:Nat) (w:World) (h:DcAt w b m y) (hm:GMap w m n (mapG g)) :
  Calls Tryz.prog 145 #[.pointer (some ⟨b,0,none⟩)] w fun e w'=>e = .returned (.int .i64 (y.verL g))∧DcAt w' b m (y.verO g)∧Fr [b] w w':=by
 unfold Dc_u.verO Dc_u.verL
 by_cases hs:y.skips g
 ·rw [qf hs,qf hs];exact behindVersion_yes y g hs h0 h1 hk b m n w h hm
 ·rw [qd hs,qd hs];exact behindVersion_no y g hs hk b m n w h hm
def Dc_u.stO (y:Dc_u):Dc_u:=if y.s≠1∧y.s<3 then y.on else y
def Dc_u.stL (y:Dc_u):Int:=if y.s≠1∧y.s<3 then y.onL else 2
theorem behindSt_any (y:Dc_u) (h0:-1≤y.cell) (h1:y.cell≤1000) (b m:Nat) (w:World) (h:DcAt w b m y):Calls Tryz.prog 120 #[.pointer (some ⟨b,0,none⟩)] w fun e w'=>e = .returned (.int .i64 y.stL)∧DcAt w' b m y.stO∧Fr [b] w w':=behindState_any y h0 h1 b m w h
def Dc_u.gvO (y:Dc_u) (g:Int→Option It):Dc_u:=if y.s<3 then y.on else y.verO g
def Dc_u.gvL (y:Dc_u) (g:Int→Option It):Int:=if y.s<3 then y.onL else y.verL g
theorem behindGiven_any (y:Dc_u) (g:Int→Option It) (h0:-1≤y.cell) (h1:y.cell≤1000) (hk:(Lit.int .i64 y.k).wf=true) (b m n:Nat) (w:World) (h:DcAt w b m y) (hm:GMap w m n (mapG g)) :
  Calls Tryz.prog 122 #[.pointer (some ⟨b,0,none⟩)] w fun e w'=>e = .returned (.int .i64 (y.gvL g))∧DcAt w' b m (y.gvO g)∧Fr [b] w w':=by
 obtain ⟨-,-,-,-,-,-,-,-,c8,-⟩:=dc_cells h
 have HV:=q9 (behindVersion_any y g h0 h1 hk b m n)
 have HN:=q9 (Vo y h0 h1 b m)
 unfold Dc_u.gvO Dc_u.gvL
 clear h0 h1 hk
 by_cases e1:y.s<3
 ·rw [qf e1,qf e1]
  have q1:decide (y.s<3)=true:=by simpa using e1
  clear e1
  go_enter Tryz.func122,Tryz.ntmps122
  go_wp2_with fail
  refine (HN.out _ h).mono ?_;rintro e w2 ⟨rfl,h2,F2⟩
  go_wp2
  go_ret
  exact ⟨rfl,h2,F2⟩
 ·rw [qd e1,qd e1]
  have q1:decide (y.s<3)=false:=by simpa using e1
  clear e1
  go_enter Tryz.func122,Tryz.ntmps122
  go_wp2_with fail
  refine (HV.out _ h hm).mono ?_;rintro e w2 ⟨rfl,h2,F2⟩
  go_wp2
  go_ret
  exact ⟨rfl,h2,F2⟩
def Dc_u.kyO (y:Dc_u) (g:Int→Option It):Dc_u:=if y.k<y.lo∨y.hi<y.k then y.on else if y.s=1 then y else y.verO g
def Dc_u.kyL (y:Dc_u) (g:Int→Option It):Int:=if y.k<y.lo∨y.hi<y.k then y.onL else if y.s=1 then 3 else y.verL g
set_option maxHeartbeats 1600000 in
theorem behindKey_any (y:Dc_u) (g:Int→Option It) (h0:-1≤y.cell) (h1:y.cell≤1000) (hk:¬ (y.k<y.lo∨y.hi<y.k)→(Lit.int .i64 y.k).wf=true) (b m n:Nat) (w:World) (h:DcAt w b m y) (hm:GMap w m n (mapG g)) :
  Calls Tryz.prog 121 #[.pointer (some ⟨b,0,none⟩)] w fun e w'=>e = .returned (.int .i64 (y.kyL g))∧DcAt w' b m (y.kyO g)∧Fr [b] w w':=by
 obtain ⟨-,-,c2,c3,-,-,-,-,c8,c9,-⟩:=dc_cells h
 have HN:=q9 (Vo y h0 h1 b m)
 unfold Dc_u.kyO Dc_u.kyL
 by_cases e1:y.k<y.lo∨y.hi<y.k
 ·rw [qf e1,qf e1]
  clear hk h0 h1
  by_cases e2:y.k<y.lo
  ·have q1:decide (y.k<y.lo)=true:=by simpa using e2
   clear e1 e2
   go_enter Tryz.func121,Tryz.ntmps121
   go_wp2_with fail
   refine Ru (by kernel_rfl) (by kernel_rfl) ?_
   have k2:=qb c2
   have k3:=qb c3
   have k9:=qb c9
   clear c2 c3 c8 c9
   repeat (go_big_quiet_step (fail))
   refine wpQuiet_nil ?_
   intro w1 F1
   go_wp2_with fail
   refine (HN.out _ (h.up F1)).mono ?_;rintro e w2 ⟨rfl,h2,F2⟩
   go_wp2
   go_ret
   exact ⟨rfl,h2,(F1.mono (by simp)).trans F2⟩
  ·have q1:decide (y.k<y.lo)=false:=by simpa using e2
   have q2:decide (y.k>y.hi)=true:=by simp;omega
   clear e1 e2
   go_enter Tryz.func121,Tryz.ntmps121
   go_wp2_with fail
   refine Ru (by kernel_rfl) (by kernel_rfl) ?_
   have k2:=qb c2
   have k3:=qb c3
   have k9:=qb c9
   clear c2 c3 c8 c9
   repeat (go_big_quiet_step (fail))
   refine wpQuiet_nil ?_
   intro w1 F1
   go_wp2_with fail
   refine (HN.out _ (h.up F1)).mono ?_;rintro e w2 ⟨rfl,h2,F2⟩
   go_wp2
   go_ret
   exact ⟨rfl,h2,(F1.mono (by simp)).trans F2⟩
 ·rw [qd e1,qd e1]
  have HV:=q9 (behindVersion_any y g h0 h1 (hk e1) b m n)
  have q1:decide (y.k<y.lo)=false:=by simp;omega
  have q2:decide (y.k>y.hi)=false:=by simp;omega
  clear e1 hk h0 h1
  by_cases e2:y.s=1
  ·rw [qf e2,qf e2]
   have q3:(y.s == 1)=true:=by simpa using e2
   clear e2
   go_enter Tryz.func121,Tryz.ntmps121
   go_wp2_with fail
   refine Ru (by kernel_rfl) (by kernel_rfl) ?_
   have k2:=qb c2
   have k3:=qb c3
   have k9:=qb c9
   repeat (go_big_quiet_step (fail))
   refine wpQuiet_nil ?_
   intro w1 F1
   have h1:=h.up F1
   obtain ⟨-,-,-,-,-,-,-,-,d8,-⟩:=dc_cells h1
   clear c2 c3 c8 c9 k2 k3 k9
   go_wp2
   go_ret
   exact ⟨rfl,h1,F1.mono (by simp)⟩
  ·rw [qd e2,qd e2]
   have q3:(y.s == 1)=false:=by simpa using e2
   clear e2
   go_enter Tryz.func121,Tryz.ntmps121
   go_wp2_with fail
   refine Ru (by kernel_rfl) (by kernel_rfl) ?_
   have k2:=qb c2
   have k3:=qb c3
   have k9:=qb c9
   repeat (go_big_quiet_step (fail))
   refine wpQuiet_nil ?_
   intro w1 F1
   have h1:=h.up F1
   have hm1:=hm.up F1
   obtain ⟨-,-,-,-,-,-,-,-,d8,-⟩:=dc_cells h1
   clear c2 c3 c8 c9 k2 k3 k9
   go_wp2_with fail
   refine (HV.out _ h1 hm1).mono ?_;rintro e w2 ⟨rfl,h2,F2⟩
   go_wp2
   go_ret
   exact ⟨rfl,h2,(F1.mono (by simp)).trans F2⟩
end Go.Proofs.YtaccfepnhmgagaaGreatDoor.Dk_u
namespace Go.Proofs.YtaccfepnhmgagaaGreatDoor.Dk_u
open Go.RowKit Go.Maps Go.Proofs.YtaccfepnhmgagaaGreatDoor.Ar Go.Proofs.YtaccfepnhmgagaaGreatDoor.Mx Go.Proofs.YtaccfepnhmgagaaGreatDoor.Vw Go.Proofs.YtaccfepnhmgagaaGreatDoor.Ch
set_option linter.unusedVariables false
set_option linter.unusedSimpArgs false
theorem stateP_any (a i:Int) (w:World):Calls Tryz.prog 42 #[.int .i64 a,.int .i64 i] w fun e w'=>e = .returned (.int .i64 (Qp a i))∧w=w':=by
 go_enter Tryz.func42,Tryz.ntmps42
 go_wp2
 go_ret
 exact Yi (by unfold Qp;first | rw [w64w] | (simp only [w64l,w64r,w64i,w64w]))
theorem Ar.setO {w:World} {p q b i:Nat} {s:St} (h:Ar w p q s) (hp:b≠p) (hq:b≠q) (v:Value):Ar (w.setCell ⟨b,i,none⟩ v) p q s :=
 h.kept (Fr.setCell (S:=[b]) v (List.mem_singleton.2 rfl)) (by simpa using hp.symm) (by simpa using hq.symm)
def DkPost (b m n p q:Nat) (w:World) (g:Int→Option It) (y:Dc_u) (ln:Int) (s:St) (e:Ending) (w':World):Prop :=
 e = .returned (.int .i64 ln)∧DcAt w' b m y∧Ar w' p q s∧(∃ k,k≤n+1∧GMap w' m k (mapG g))∧Fr [b,m,p,q] w w'
set_option maxHeartbeats 3200000 in
theorem access0 (y:Dc_u) (g:Int→Option It) (hl:y.line=0) (b m n p q:Nat) (s:St) (w:World) (hne:b≠p∧b≠q∧b≠m∧m≠p∧m≠q) (h:DcAt w b m y) (hA:Ar w p q s) (hm:GMap w m n (mapG g)) :
  Calls Tryz.prog 88 #[.pointer (some ⟨b,0,none⟩),.pointer (some ⟨p,0,none⟩)] w (DkPost b m n p q w g ({ y with count:=min (max (qw s.l (wrap64 (y.chunk+1))) 0) y.room }.stand 0) ({ y with count:=min (max (qw s.l (wrap64 (y.chunk+1))) 0) y.room }.standL 0) (s.load (wrap64 (y.chunk+1)))):=by
 obtain ⟨c0,c1,c2,c3,c4,c5,c6,c7,c8,c9,c10,c11⟩:=dc_cells h
 rw [hl] at c7
 obtain ⟨hbp,hbq,hbm,hmp,hmq⟩:=hne
 have HY:=q9 hl
 clear hl
 go_enter Tryz.func88,Tryz.ntmps88
 go_wp2_with fail
 refine Ru (by kernel_rfl) (by kernel_rfl) ?_
 have k1:=qb c1
 have k6:=qb c6
 repeat (go_big_quiet_step ((go_at_call 42;exact Calls.in_same (stateP_any _ _ _))))
 refine wpQuiet_nil ?_
 intro w1 F1
 clear k1 k6 c0 c1 c2 c3 c4 c5 c6 c7 c8 c9 c10 c11
 replace h:=h.up F1
 replace hA:=hA.kept F1 (by simp) (by simp)
 replace hm:=hm.up F1
 have D1:Fr [b,m,p,q] w w1:=F1.mono (by simp)
 clear F1
 obtain ⟨c0,c1,c2,c3,c4,c5,c6,c7,c8,c9,c10,c11⟩:=dc_cells h
 rw [HY.out] at c7
 go_wp2_with fail
 refine qp (by kernel_rfl) ?_
 refine za [p,q] w1 #[true,true,true,true,true,true,true,true,true,true,true,true,true,true,false,false,false] 14 3 rfl ?_
 refine q56 [true,true,true,true,true,true,true,false,false,true,true,true,true,false,false,false,false] 3 (n:=111) (listed':=#[true,true,true,true,true,true,true,false,false,true,true,true,true,false,false,false,false]) rfl (by kernel_rfl) (by kernel_rfl) (by kernel_rfl) (by kernel_rfl) rfl (by kernel_rfl) (fun _ _ d _ _ h=>by cases d <;> exact h) ((Fr.refl _ w1).drew) ?_
 apply qg
 refine ⟨fun wf Ff=>?_,?_⟩
 ·have hf:DcAt wf b m y:=Ob.kept h Ff (by simp;exact ⟨hbp,hbq⟩)
  obtain ⟨-,d1,-,-,d4,-⟩:=dc_cells hf
  have k1:=qb d1
  have k4:=qb d4
  clear d1 d4
  simp only [sel]
  repeat (go_big_quiet_step (fail))
  exact wpQuiet_nil rfl
 refine q87 7 (by kernel_rfl) rfl rfl (fun w3 F3=>?_)
 have D3:=(Fr.refl [] w1).drew.trans F3
 have A3:=hA.kept D3 (by simp) (by simp)
 have h3:=Ob.up h D3
 have m3:=hm.up D3
 clear hA h hm F3 c0 c1 c2 c3 c4 c5 c6 c7 c8 c9 c10 c11
 go_wp2_with fail
 refine (Ar.zl _ p q s _ A3).mono ?_;rintro e w4 ⟨rfl,A4,F4⟩
 go_wp2_with fail
 refine ql ⟨(D3.mono (by simp)).trans F4,?_⟩
 refine q56 [false,false,false,false,false,false,false,false,true,false,false,false,false,true,false,false,false] 0 (n:=111) (listed':=#[true,true,true,true,true,true,true,true,true,true,true,true,true,true,false,false,false]) rfl (by kernel_rfl) (by kernel_rfl) (by kernel_rfl) (by kernel_rfl) rfl (by kernel_rfl) (fun _ _ d _ _ h=>by cases d <;> exact h) ((D3.mono (by simp)).trans F4) ?_
 apply qg
 refine ⟨fun wf Ff=>?_,?_⟩
 ·simp only [sel]
  repeat (go_big_quiet_step (fail))
  exact wpQuiet_nil rfl
 refine qy (k:=14) rfl (by kernel_rfl) (fun w5 F5=>?_)
 have A5:=A4.kept F5 (by simp) (by simp)
 have h5:DcAt w5 b m y:=(Ob.kept h3 F4 (by simp;exact ⟨hbp,hbq⟩)).up F5
 have m5:=(m3.kept F4 (by simp;exact ⟨hmp,hmq⟩)).up F5
 have D5:Fr [b,m,p,q] w w5:=((zm D1 D3 (by simp)).trans (F4.mono (by simp))).then F5
 clear A3 A4 h3 F4 F5 D3 m3 D1
 have z:=h5.frozen
 obtain ⟨c0,c1,c2,c3,c4,c5,c6,c7,c8,c9,c10,c11⟩:=dc_cells h5
 go_wp2_with fail
 have h6:DcAt _ b m { y with count:=(min (max (qw s.l (wrap64 (y.chunk+1))) 0) y.room) }:=h5.set (i:=5) (.int .i64 (min (max (qw s.l (wrap64 (y.chunk+1))) 0) y.room))
 have A6:=Ar.setO A5 hbp hbq (i:=5) (.int .i64 (min (max (qw s.l (wrap64 (y.chunk+1))) 0) y.room))
 have m6:=m5.kept (Fr.setCell (S:=[b]) (b:=b) (i:=5) (.int .i64 (min (max (qw s.l (wrap64 (y.chunk+1))) 0) y.room)) (by simp)) (by simp;exact hbm.symm)
 have D6:=D5.setCell' (b:=b) (i:=5) (.int .i64 (min (max (qw s.l (wrap64 (y.chunk+1))) 0) y.room)) (by simp)
 clear c0 c1 c2 c3 c4 c5 c6 c7 c8 c9 c10 c11 z h5 A5 m5 D5
 refine (stand_any { y with count:=(min (max (qw s.l (wrap64 (y.chunk+1))) 0) y.room) } 0 b m _ h6).mono ?_;rintro e w7 ⟨rfl,h7,F7⟩
 go_wp2
 go_ret
 exact ⟨rfl,h7,A6.kept F7 (by simp;exact hbp.symm) (by simp;exact hbq.symm),⟨n,Nat.le_succ n,m6.kept F7 (by simp;exact hbm.symm)⟩,zm D6 F7 (by simp)⟩
set_option maxHeartbeats 1600000 in
theorem access1 (y:Dc_u) (g:Int→Option It) (hl:y.line=1) (b m n p q:Nat) (s:St) (w:World) (hcl:-1≤y.cell∧y.cell≤1000) (hne:b≠p∧b≠q∧b≠m∧m≠p∧m≠q) (h:DcAt w b m y) (hA:Ar w p q s) (hm:GMap w m n (mapG g)) :
  Calls Tryz.prog 88 #[.pointer (some ⟨b,0,none⟩),.pointer (some ⟨p,0,none⟩)] w (DkPost b m n p q w g ({ y with s:=(qw s.l (Qp y.chunk y.cell)) }.stO) ({ y with s:=(qw s.l (Qp y.chunk y.cell)) }.stL) (s.load (Qp y.chunk y.cell))):=by
 have HB:=q9 hcl
 clear hcl
 obtain ⟨c0,c1,c2,c3,c4,c5,c6,c7,c8,c9,c10,c11⟩:=dc_cells h
 rw [hl] at c7
 obtain ⟨hbp,hbq,hbm,hmp,hmq⟩:=hne
 have HY:=q9 hl
 clear hl
 go_enter Tryz.func88,Tryz.ntmps88
 go_wp2_with fail
 refine Ru (by kernel_rfl) (by kernel_rfl) ?_
 have k1:=qb c1
 have k6:=qb c6
 repeat (go_big_quiet_step ((go_at_call 42;exact Calls.in_same (stateP_any _ _ _))))
 refine wpQuiet_nil ?_
 intro w1 F1
 clear k1 k6 c0 c1 c2 c3 c4 c5 c6 c7 c8 c9 c10 c11
 replace h:=h.up F1
 replace hA:=hA.kept F1 (by simp) (by simp)
 replace hm:=hm.up F1
 have D1:Fr [b,m,p,q] w w1:=F1.mono (by simp)
 clear F1
 obtain ⟨c0,c1,c2,c3,c4,c5,c6,c7,c8,c9,c10,c11⟩:=dc_cells h
 rw [HY.out] at c7
 go_wp2_with fail
 refine (Ar.zl _ p q s _ hA).mono ?_;rintro e w5 ⟨rfl,A5,F4⟩
 have h5:DcAt w5 b m y:=Ob.kept h F4 (by simp;exact ⟨hbp,hbq⟩)
 have m5:=hm.kept F4 (by simp;exact ⟨hmp,hmq⟩)
 have D5:Fr [b,m,p,q] w w5:=zm D1 F4 (by simp)
 clear hA h hm F4 D1 c0 c1 c2 c3 c4 c5 c6 c7 c8 c9 c10 c11
 have z:=h5.frozen
 obtain ⟨c0,c1,c2,c3,c4,c5,c6,c7,c8,c9,c10,c11⟩:=dc_cells h5
 go_wp2_with fail
 have h6:DcAt _ b m { y with s:=(qw s.l (Qp y.chunk y.cell)) }:=h5.set (i:=8) (.int .i64 (qw s.l (Qp y.chunk y.cell)))
 have A6:=Ar.setO A5 hbp hbq (i:=8) (.int .i64 (qw s.l (Qp y.chunk y.cell)))
 have m6:=m5.kept (Fr.setCell (S:=[b]) (b:=b) (i:=8) (.int .i64 (qw s.l (Qp y.chunk y.cell))) (by simp)) (by simp;exact hbm.symm)
 have D6:=D5.setCell' (b:=b) (i:=8) (.int .i64 (qw s.l (Qp y.chunk y.cell))) (by simp)
 clear c0 c1 c2 c3 c4 c5 c6 c7 c8 c9 c10 c11 z h5 A5 m5 D5
 refine (behindSt_any { y with s:=(qw s.l (Qp y.chunk y.cell)) } HB.out.1 HB.out.2 b m _ h6).mono ?_;rintro e w7 ⟨rfl,h7,F7⟩
 go_wp2
 go_ret
 exact ⟨rfl,h7,A6.kept F7 (by simp;exact hbp.symm) (by simp;exact hbq.symm),⟨n,Nat.le_succ n,m6.kept F7 (by simp;exact hbm.symm)⟩,zm D6 F7 (by simp)⟩
set_option maxHeartbeats 1600000 in
theorem access2 (y:Dc_u) (g:Int→Option It) (hl:y.line=2) (b m n p q:Nat) (s:St) (w:World) (hcl:-1≤y.cell∧y.cell≤1000) (hlo:-9223372036854775808≤y.lo∧y.hi≤9223372036854775807) (hne:b≠p∧b≠q∧b≠m∧m≠p∧m≠q) (h:DcAt w b m y) (hA:Ar w p q s) (hm:GMap w m n (mapG g)) :
  Calls Tryz.prog 88 #[.pointer (some ⟨b,0,none⟩),.pointer (some ⟨p,0,none⟩)] w (DkPost b m n p q w g ({ y with k:=(qw s.l (wrap64 (Qp y.chunk y.cell+1))) }.kyO g) ({ y with k:=(qw s.l (wrap64 (Qp y.chunk y.cell+1))) }.kyL g) (s.load (wrap64 (Qp y.chunk y.cell+1)))):=by
 have HB:=q9 hcl
 clear hcl
 have HW:=q9 hlo
 clear hlo
 obtain ⟨c0,c1,c2,c3,c4,c5,c6,c7,c8,c9,c10,c11⟩:=dc_cells h
 rw [hl] at c7
 obtain ⟨hbp,hbq,hbm,hmp,hmq⟩:=hne
 have HY:=q9 hl
 clear hl
 go_enter Tryz.func88,Tryz.ntmps88
 go_wp2_with fail
 refine Ru (by kernel_rfl) (by kernel_rfl) ?_
 have k1:=qb c1
 have k6:=qb c6
 repeat (go_big_quiet_step ((go_at_call 42;exact Calls.in_same (stateP_any _ _ _))))
 refine wpQuiet_nil ?_
 intro w1 F1
 clear k1 k6 c0 c1 c2 c3 c4 c5 c6 c7 c8 c9 c10 c11
 replace h:=h.up F1
 replace hA:=hA.kept F1 (by simp) (by simp)
 replace hm:=hm.up F1
 have D1:Fr [b,m,p,q] w w1:=F1.mono (by simp)
 clear F1
 obtain ⟨c0,c1,c2,c3,c4,c5,c6,c7,c8,c9,c10,c11⟩:=dc_cells h
 rw [HY.out] at c7
 go_wp2_with fail
 refine (Ar.zl _ p q s _ hA).mono ?_;rintro e w5 ⟨rfl,A5,F4⟩
 have h5:DcAt w5 b m y:=Ob.kept h F4 (by simp;exact ⟨hbp,hbq⟩)
 have m5:=hm.kept F4 (by simp;exact ⟨hmp,hmq⟩)
 have D5:Fr [b,m,p,q] w w5:=zm D1 F4 (by simp)
 clear hA h hm F4 D1 c0 c1 c2 c3 c4 c5 c6 c7 c8 c9 c10 c11
 have z:=h5.frozen
 obtain ⟨c0,c1,c2,c3,c4,c5,c6,c7,c8,c9,c10,c11⟩:=dc_cells h5
 go_wp2_with fail
 have h6:DcAt _ b m { y with k:=(qw s.l (wrap64 (Qp y.chunk y.cell+1))) }:=h5.set (i:=9) (.int .i64 (qw s.l (wrap64 (Qp y.chunk y.cell+1))))
 have A6:=Ar.setO A5 hbp hbq (i:=9) (.int .i64 (qw s.l (wrap64 (Qp y.chunk y.cell+1))))
 have m6:=m5.kept (Fr.setCell (S:=[b]) (b:=b) (i:=9) (.int .i64 (qw s.l (wrap64 (Qp y.chunk y.cell+1)))) (by simp)) (by simp;exact hbm.symm)
 have D6:=D5.setCell' (b:=b) (i:=9) (.int .i64 (qw s.l (wrap64 (Qp y.chunk y.cell+1)))) (by simp)
 clear c0 c1 c2 c3 c4 c5 c6 c7 c8 c9 c10 c11 z h5 A5 m5 D5
 refine (behindKey_any { y with k:=(qw s.l (wrap64 (Qp y.chunk y.cell+1))) } g HB.out.1 HB.out.2 (fun e=>WalkArith.wf_i64 (by have:=HW.out;simp only at e ⊢;omega)) b m n _ h6 m6).mono ?_;rintro e w7 ⟨rfl,h7,F7⟩
 go_wp2
 go_ret
 exact ⟨rfl,h7,A6.kept F7 (by simp;exact hbp.symm) (by simp;exact hbq.symm),⟨n,Nat.le_succ n,m6.kept F7 (by simp;exact hbm.symm)⟩,zm D6 F7 (by simp)⟩
set_option maxHeartbeats 1600000 in
theorem access3 (y:Dc_u) (g:Int→Option It) (hl:y.line=3) (b m n p q:Nat) (s:St) (w:World) (hne:b≠p∧b≠q∧b≠m∧m≠p∧m≠q) (h:DcAt w b m y) (hA:Ar w p q s) (hm:GMap w m n (mapG g)) :
  Calls Tryz.prog 88 #[.pointer (some ⟨b,0,none⟩),.pointer (some ⟨p,0,none⟩)] w (DkPost b m n p q w g { y with g:=(qw s.l 1) } 4 (s.load 1)):=by
 obtain ⟨c0,c1,c2,c3,c4,c5,c6,c7,c8,c9,c10,c11⟩:=dc_cells h
 rw [hl] at c7
 obtain ⟨hbp,hbq,hbm,hmp,hmq⟩:=hne
 have HY:=q9 hl
 clear hl
 go_enter Tryz.func88,Tryz.ntmps88
 go_wp2_with fail
 refine Ru (by kernel_rfl) (by kernel_rfl) ?_
 have k1:=qb c1
 have k6:=qb c6
 repeat (go_big_quiet_step ((go_at_call 42;exact Calls.in_same (stateP_any _ _ _))))
 refine wpQuiet_nil ?_
 intro w1 F1
 clear k1 k6 c0 c1 c2 c3 c4 c5 c6 c7 c8 c9 c10 c11
 replace h:=h.up F1
 replace hA:=hA.kept F1 (by simp) (by simp)
 replace hm:=hm.up F1
 have D1:Fr [b,m,p,q] w w1:=F1.mono (by simp)
 clear F1
 obtain ⟨c0,c1,c2,c3,c4,c5,c6,c7,c8,c9,c10,c11⟩:=dc_cells h
 rw [HY.out] at c7
 go_wp2_with fail
 refine (Ar.zl _ p q s _ hA).mono ?_;rintro e w5 ⟨rfl,A5,F4⟩
 have h5:DcAt w5 b m y:=Ob.kept h F4 (by simp;exact ⟨hbp,hbq⟩)
 have m5:=hm.kept F4 (by simp;exact ⟨hmp,hmq⟩)
 have D5:Fr [b,m,p,q] w w5:=zm D1 F4 (by simp)
 clear hA h hm F4 D1 c0 c1 c2 c3 c4 c5 c6 c7 c8 c9 c10 c11
 have z:=h5.frozen
 obtain ⟨c0,c1,c2,c3,c4,c5,c6,c7,c8,c9,c10,c11⟩:=dc_cells h5
 go_wp2_with fail
 have h6:DcAt _ b m { y with g:=(qw s.l 1) }:=h5.set (i:=10) (.int .i64 (qw s.l 1))
 have A6:=Ar.setO A5 hbp hbq (i:=10) (.int .i64 (qw s.l 1))
 have m6:=m5.kept (Fr.setCell (S:=[b]) (b:=b) (i:=10) (.int .i64 (qw s.l 1)) (by simp)) (by simp;exact hbm.symm)
 have D6:=D5.setCell' (b:=b) (i:=10) (.int .i64 (qw s.l 1)) (by simp)
 clear c0 c1 c2 c3 c4 c5 c6 c7 c8 c9 c10 c11 z h5 A5 m5 D5
 go_wp2
 go_ret
 exact ⟨rfl,h6,A6,⟨n,Nat.le_succ n,m6⟩,D6⟩
set_option maxHeartbeats 1600000 in
theorem access4 (y:Dc_u) (g:Int→Option It) (hl:y.line=4) (b m n p q:Nat) (s:St) (w:World) (t:Word.Tab w) (ht:1≠p∧1≠q) (hne:b≠p∧b≠q∧b≠m∧m≠p∧m≠q) (h:DcAt w b m y) (hA:Ar w p q s) (hm:GMap w m n (mapG g)) :
  Calls Tryz.prog 88 #[.pointer (some ⟨b,0,none⟩),.pointer (some ⟨p,0,none⟩)] w (DkPost b m n p q w g y 5 (s.swap (Qp y.chunk y.cell) 1 (yc y.g))):=by
 have HT:=q9 t
 clear t
 obtain ⟨c0,c1,c2,c3,c4,c5,c6,c7,c8,c9,c10,c11⟩:=dc_cells h
 rw [hl] at c7
 obtain ⟨hbp,hbq,hbm,hmp,hmq⟩:=hne
 have HY:=q9 hl
 clear hl
 go_enter Tryz.func88,Tryz.ntmps88
 go_wp2_with fail
 refine Ru (by kernel_rfl) (by kernel_rfl) ?_
 have k1:=qb c1
 have k6:=qb c6
 repeat (go_big_quiet_step ((go_at_call 42;exact Calls.in_same (stateP_any _ _ _))))
 refine wpQuiet_nil ?_
 intro w1 F1
 clear k1 k6 c0 c1 c2 c3 c4 c5 c6 c7 c8 c9 c10 c11
 replace h:=h.up F1
 replace hA:=hA.kept F1 (by simp) (by simp)
 replace hm:=hm.up F1
 have D1:Fr [b,m,p,q] w w1:=F1.mono (by simp)
 have HT1:=q9 (Gp_u.tab_up HT.out F1)
 clear F1
 obtain ⟨c0,c1,c2,c3,c4,c5,c6,c7,c8,c9,c10,c11⟩:=dc_cells h
 rw [HY.out] at c7
 go_wp2_with fail
 refine (Gp_u.state9 _ _ HT1.out).mono ?_;rintro e w2 ⟨rfl,F2⟩
 replace h:=Ob.up h F2
 replace hA:=hA.kept F2 (by simp) (by simp)
 replace hm:=hm.up F2
 replace D1:=D1.then F2
 clear F2 c0 c1 c2 c3 c4 c5 c6 c7 c8 c9 c10 c11
 go_wp2_with fail
 refine (Ar.yp _ p q s _ _ _ hA).mono ?_;rintro e w5 ⟨rfl,A5,F4⟩
 generalize s.can (Qp y.chunk y.cell) 1=val
 go_wp2
 go_ret
 exact ⟨rfl,Ob.kept h F4 (by simp;exact ⟨hbp,hbq⟩),A5,⟨n,Nat.le_succ n,hm.kept F4 (by simp;exact ⟨hmp,hmq⟩)⟩,zm D1 F4 (by simp)⟩
set_option maxHeartbeats 1600000 in
theorem access5 (y:Dc_u) (g:Int→Option It) (hl:y.line=5) (b m n p q:Nat) (s:St) (w:World) (hcl:-1≤y.cell∧y.cell≤1000) (hk:(Lit.int .i64 y.k).wf=true) (hne:b≠p∧b≠q∧b≠m∧m≠p∧m≠q) (h:DcAt w b m y) (hA:Ar w p q s) (hm:GMap w m n (mapG g)) :
  Calls Tryz.prog 88 #[.pointer (some ⟨b,0,none⟩),.pointer (some ⟨p,0,none⟩)] w (DkPost b m n p q w g ({ y with s:=(qw s.l (Qp y.chunk y.cell)) }.gvO g) ({ y with s:=(qw s.l (Qp y.chunk y.cell)) }.gvL g) (s.load (Qp y.chunk y.cell))):=by
 have HB:=q9 hcl
 clear hcl
 have HK:=q9 hk
 clear hk
 obtain ⟨c0,c1,c2,c3,c4,c5,c6,c7,c8,c9,c10,c11⟩:=dc_cells h
 rw [hl] at c7
 obtain ⟨hbp,hbq,hbm,hmp,hmq⟩:=hne
 have HY:=q9 hl
 clear hl
 go_enter Tryz.func88,Tryz.ntmps88
 go_wp2_with fail
 refine Ru (by kernel_rfl) (by kernel_rfl) ?_
 have k1:=qb c1
 have k6:=qb c6
 repeat (go_big_quiet_step ((go_at_call 42;exact Calls.in_same (stateP_any _ _ _))))
 refine wpQuiet_nil ?_
 intro w1 F1
 clear k1 k6 c0 c1 c2 c3 c4 c5 c6 c7 c8 c9 c10 c11
 replace h:=h.up F1
 replace hA:=hA.kept F1 (by simp) (by simp)
 replace hm:=hm.up F1
 have D1:Fr [b,m,p,q] w w1:=F1.mono (by simp)
 clear F1
 obtain ⟨c0,c1,c2,c3,c4,c5,c6,c7,c8,c9,c10,c11⟩:=dc_cells h
 rw [HY.out] at c7
 go_wp2_with fail
 refine (Ar.zl _ p q s _ hA).mono ?_;rintro e w5 ⟨rfl,A5,F4⟩
 have h5:DcAt w5 b m y:=Ob.kept h F4 (by simp;exact ⟨hbp,hbq⟩)
 have m5:=hm.kept F4 (by simp;exact ⟨hmp,hmq⟩)
 have D5:Fr [b,m,p,q] w w5:=zm D1 F4 (by simp)
 clear hA h hm F4 D1 c0 c1 c2 c3 c4 c5 c6 c7 c8 c9 c10 c11
 have z:=h5.frozen
 obtain ⟨c0,c1,c2,c3,c4,c5,c6,c7,c8,c9,c10,c11⟩:=dc_cells h5
 go_wp2_with fail
 have h6:DcAt _ b m { y with s:=(qw s.l (Qp y.chunk y.cell)) }:=h5.set (i:=8) (.int .i64 (qw s.l (Qp y.chunk y.cell)))
 have A6:=Ar.setO A5 hbp hbq (i:=8) (.int .i64 (qw s.l (Qp y.chunk y.cell)))
 have m6:=m5.kept (Fr.setCell (S:=[b]) (b:=b) (i:=8) (.int .i64 (qw s.l (Qp y.chunk y.cell))) (by simp)) (by simp;exact hbm.symm)
 have D6:=D5.setCell' (b:=b) (i:=8) (.int .i64 (qw s.l (Qp y.chunk y.cell))) (by simp)
 clear c0 c1 c2 c3 c4 c5 c6 c7 c8 c9 c10 c11 z h5 A5 m5 D5
 refine (behindGiven_any { y with s:=(qw s.l (Qp y.chunk y.cell)) } g HB.out.1 HB.out.2 HK.out b m n _ h6 m6).mono ?_;rintro e w7 ⟨rfl,h7,F7⟩
 go_wp2
 go_ret
 exact ⟨rfl,h7,A6.kept F7 (by simp;exact hbp.symm) (by simp;exact hbq.symm),⟨n,Nat.le_succ n,m6.kept F7 (by simp;exact hbm.symm)⟩,zm D6 F7 (by simp)⟩
def putG (g:Int→Option It) (x:It):Int→Option It:=fun k=>if k=x.k then some x else g k
theorem mapG_in (g:Int→Option It) (x:It):(fun k=>if k=x.k then some (itV x) else mapG g k)=mapG (putG g x):=by
 funext k;unfold mapG putG;split <;> rfl
set_option maxHeartbeats 3200000 in
theorem access6 (y:Dc_u) (g:Int→Option It) (hl:y.line=6) (b m n p q:Nat) (s:St) (w:World) (hcl:-1≤y.cell∧y.cell≤1000) (hk:(Lit.int .i64 y.k).wf=true) (hn:n<100000) (hne:b≠p∧b≠q∧b≠m∧m≠p∧m≠q) (h:DcAt w b m y) (hA:Ar w p q s) (hm:GMap w m n (mapG g)) :
  Calls Tryz.prog 88 #[.pointer (some ⟨b,0,none⟩),.pointer (some ⟨p,0,none⟩)] w (DkPost b m n p q w (putG g ⟨y.k,verV y.s,(qw s.l (wrap64 (Qp y.chunk y.cell+2)))⟩) y.on y.onL (s.load (wrap64 (Qp y.chunk y.cell+2)))):=by
 have HB:=q9 hcl
 clear hcl
 have HK:=q9 hk
 clear hk
 obtain ⟨c0,c1,c2,c3,c4,c5,c6,c7,c8,c9,c10,c11⟩:=dc_cells h
 rw [hl] at c7
 obtain ⟨hbp,hbq,hbm,hmp,hmq⟩:=hne
 have HY:=q9 hl
 clear hl
 go_enter Tryz.func88,Tryz.ntmps88
 go_wp2_with fail
 refine Ru (by kernel_rfl) (by kernel_rfl) ?_
 have k1:=qb c1
 have k6:=qb c6
 repeat (go_big_quiet_step ((go_at_call 42;exact Calls.in_same (stateP_any _ _ _))))
 refine wpQuiet_nil ?_
 intro w1 F1
 clear k1 k6 c0 c1 c2 c3 c4 c5 c6 c7 c8 c9 c10 c11
 replace h:=h.up F1
 replace hA:=hA.kept F1 (by simp) (by simp)
 replace hm:=hm.up F1
 have D1:Fr [b,m,p,q] w w1:=F1.mono (by simp)
 clear F1
 obtain ⟨c0,c1,c2,c3,c4,c5,c6,c7,c8,c9,c10,c11⟩:=dc_cells h
 rw [HY.out] at c7
 go_wp2_with fail
 refine z7 (by kernel_rfl) [p,q,m] (fun w2 F2=>?_)
 refine Z8 [true,true,true,true,true,true,true,true,true,true,true,true,true,true,true,true,true,true,true,true,false,false,false] 3 (n:=111) (listed':=#[true,true,true,true,true,true,true,true,true,true,true,true,true,true,true,true,true,true,true,true,false,false,false]) rfl (by kernel_rfl) (by kernel_rfl) (by kernel_rfl) rfl (by kernel_rfl) (fun _ _ d _ _ h=>by cases d <;> exact h) (F2.mono (by simp)) ?_
 apply qg
 refine ⟨fun wf Ff=>?_,?_⟩
 ·have hf:DcAt wf b m y:=Ob.kept h Ff (by simp;exact ⟨hbp,hbq,hbm⟩)
  obtain ⟨-,-,-,-,-,-,-,-,d8,d9,-,d11⟩:=dc_cells hf
  have k8:=qb d8
  have k9:=qb d9
  have k11:=qb d11
  clear d8 d9 d11
  simp only [sel]
  repeat (go_big_quiet_step ((go_at_call 55;exact Calls.in_same (qal _ _))))
  exact wpQuiet_nil rfl
 refine qb9 20 (by kernel_rfl) rfl rfl (fun w3 F3=>?_)
 have D3:=F2.then F3
 replace h:=Ob.up h D3
 replace hA:=hA.kept D3 (by simp) (by simp)
 replace hm:=hm.up D3
 have E3:=D3
 clear F2 F3 D3 c0 c1 c2 c3 c4 c5 c6 c7 c8 c9 c10 c11
 go_wp2_with fail
 refine (Ar.zl _ p q s _ hA).mono ?_;rintro e w4 ⟨rfl,A4,F4⟩
 replace h:=Ob.kept h F4 (by simp;exact ⟨hbp,hbq⟩)
 replace hm:=hm.kept F4 (by simp;exact ⟨hmp,hmq⟩)
 have E4:Fr [p,q,m] w1 w4:=(E3.mono (by simp)).trans (F4.mono (by simp))
 clear hA F4 E3
 go_wp2_with fail
 refine ql ⟨E4,?_⟩
 refine qb9 21 (by kernel_rfl) rfl rfl (fun w5 F5=>?_)
 have E5:=E4.then F5
 replace h:=Ob.up h F5
 replace hm:=hm.up F5
 replace A4:=A4.kept F5 (by simp) (by simp)
 clear E4 F5
 go_wp2_with fail
 refine ql ⟨E5,?_⟩
 refine qb9 22 (by kernel_rfl) rfl rfl (fun w6 F6=>?_)
 have E6:=E5.then F6
 replace h:=Ob.up h F6
 replace hm:=hm.up F6
 replace A4:=A4.kept F6 (by simp) (by simp)
 clear E5 F6
 obtain ⟨w8,r8,G8,F8⟩:=GMap.put hm Tryz.underlying129 (by unfold maxLen;omega) HK.out (itV ⟨y.k,verV y.s,(qw s.l (wrap64 (Qp y.chunk y.cell+2)))⟩)
 rw [mapG_in g ⟨y.k,verV y.s,(qw s.l (wrap64 (Qp y.chunk y.cell+2)))⟩] at G8
 unfold itV at r8
 go_wp2_with fail
 have E8:Fr [p,q,m] w1 w8:=(E6.mono (by simp)).trans (F8.mono (by simp))
 refine ql ⟨E8,?_⟩
 refine zq (by kernel_rfl) (fun w9 F9=>?_)
 have h9:DcAt w9 b m y:=(Ob.kept h F8 (by simp;exact hbm)).up F9
 have A9:=(A4.kept F8 (by simp;exact hmp.symm) (by simp;exact hmq.symm)).kept F9 (by simp) (by simp)
 have G9:=G8.up F9
 have E9:Fr [b,m,p,q] w w9:=(zm D1 E8 (by simp)).then F9
 clear r8 G8 F8 F9 E8 E6 A4 h hm D1
 go_wp2_with fail
 refine (Vo y HB.out.1 HB.out.2 b m _ h9).mono ?_;rintro e w7 ⟨rfl,h7,F7⟩
 go_wp2
 go_ret
 exact ⟨rfl,h7,A9.kept F7 (by simp;exact hbp.symm) (by simp;exact hbq.symm),⟨n+1,Nat.le_refl _,G9.kept F7 (by simp;exact hbm.symm)⟩,zm E9 F7 (by simp)⟩
end Go.Proofs.YtaccfepnhmgagaaGreatDoor.Dk_u
namespace Go.Proofs.YtaccfepnhmgagaaGreatDoor.Dk_u
open Go.RowKit Go.Maps Go.Proofs.YtaccfepnhmgagaaGreatDoor.Ar Go.Proofs.YtaccfepnhmgagaaGreatDoor.Mx Go.Proofs.YtaccfepnhmgagaaGreatDoor.Vw Go.Proofs.YtaccfepnhmgagaaGreatDoor.Ch
set_option linter.unusedVariables false
set_option linter.unusedSimpArgs false
def keyG (l:List It) (k:Int):Option It:=l.find? (fun y=>y.k == k)
theorem item_key (l:List It) (k:Int):(Vb l k=none∧keyG l k=none)∨∃ i y,Vb l k=some i∧l[i]? = some y∧keyG l k=some y∧y.k=k:=by
 unfold Vb keyG
 induction l with
 | nil=>exact .inl ⟨rfl,rfl⟩
 | cons z r ih =>
  rw [List.findIdx?_cons,List.find?_cons]
  by_cases h:(z.k == k)=true
  ·rw [qf h,h];exact .inr ⟨0,z,rfl,rfl,rfl,by simpa using h⟩
  ·have hf:(z.k == k)=false:=by simpa using h
   rw [hf]
   rcases ih with ⟨h1,h2⟩ | ⟨i,y,h1,h2,h3,h4⟩
   ·left;simp only [Bool.false_eq_true,if_false];rw [h1,h2];exact ⟨rfl,rfl⟩
   ·right;simp only [Bool.false_eq_true,if_false];rw [h1,h3];exact ⟨i+1,y,rfl,by simpa using h2,rfl,h4⟩
theorem key_ins (x:It) (k:Int):∀ (l:List It),keyG l x.k=none→keyG (q0n l x) k=if k=x.k then some x else keyG l k
 | [],_=>by
  unfold q0n keyG
  by_cases h:k=x.k
  ·rw [qf h,h];simp
  ·rw [qd h,List.find?_cons,show (x.k == k)=false by simpa using Ne.symm h]
 | z :: r,hl=>by
  unfold q0n
  have hz:(z.k == x.k)=false:=by
   cases e:(z.k == x.k) with
   | false=>rfl
   | true=>unfold keyG at hl;rw [List.find?_cons,e] at hl;cases hl
  have hr:keyG r x.k=none:=by unfold keyG at hl ⊢;rw [List.find?_cons,hz] at hl;exact hl
  split
  ·have:=key_ins x k r hr
   unfold keyG at this ⊢
   rw [List.find?_cons,List.find?_cons,this]
   by_cases h:k=x.k
   ·rw [h,hz];try simp
   ·rw [qd h,qd h]
  ·unfold keyG
   rw [List.find?_cons]
   by_cases h:k=x.k
   ·rw [qf h,h];simp
   ·rw [qd h,show (x.k == k)=false by simpa using Ne.symm h]
theorem key_set (x:It) (k:Int):∀ (l:List It) (i:Nat),Vb l x.k=some i→keyG (l.set i x) k=if k=x.k then some x else keyG l k
 | [],i,h=>by simp [Vb] at h
 | z :: r,i,h=>by
  unfold Vb at h
  rw [List.findIdx?_cons] at h
  by_cases e:(z.k == x.k)=true
  ·rw [qf e] at h
   obtain rfl:=qi h
   have ez:z.k=x.k:=by simpa using e
   rw [List.set_cons_zero]
   unfold keyG
   rw [List.find?_cons,List.find?_cons,ez]
   by_cases hk:k=x.k
   ·rw [qf hk,hk];simp
   ·rw [qd hk,show (x.k == k)=false by simpa using Ne.symm hk]
  ·have ef:(z.k == x.k)=false:=by simpa using e
   rw [qd e] at h
   obtain ⟨j,hj,rfl⟩:=Option.map_eq_some_iff.1 h
   have:=key_set x k r j hj
   rw [List.set_cons_succ]
   unfold keyG at this ⊢
   rw [List.find?_cons,List.find?_cons,this]
   by_cases hk:k=x.k
   ·rw [hk,ef];try simp
   ·rw [qd hk,qd hk]
theorem key_put (l:List It) (x:It):keyG (q1d l x)=putG (keyG l) x:=by
 funext k
 unfold q1d putG
 rcases item_key l x.k with ⟨h1,h2⟩ | ⟨i,y,h1,-,-,-⟩
 ·rw [h1];exact key_ins x k l h2
 ·rw [h1];exact key_set x k l i h1
def dk (x:Lok) (cell ln:Int):Dc_u:=⟨x.most,x.chunk,x.lo,x.hi,x.c.c,x.count,cell,ln,x.s,x.k,x.g⟩
def lnD (x:Lok):Int:=if x.line=0 then 7 else x.line - 1
def After (x:Lok) (y:Dc_u) (ln:Int):Prop:=∃ cell,(x.line≠0→cell=x.i)∧ln=lnD x∧∀ l,{ y with line:=l } = dk x cell l
theorem after_on (x:Lok) (ln:Int):After x.on (dk x x.i ln).on (dk x x.i ln).onL:=by
 unfold Lok.on Dc_u.on Dc_u.onL Dc_u.stand Dc_u.standL dk After lnD
 simp only
 by_cases h:x.count≤x.i+1
 ·rw [qf h,qf h,qf h];exact ⟨x.i,fun e=>absurd rfl e,rfl,fun _=>rfl⟩
 ·rw [qd h,qd h,qd h];exact ⟨x.i+1,fun _=>rfl,rfl,fun _=>rfl⟩
theorem skips_iff (x:Lok) (ln:Int) (hs:3≤x.s∧x.s≤9223372036854775807):(dk x x.i ln).skips (keyG x.l)↔x.skips=true:=by
 unfold Dc_u.skips Lok.skips verG dk
 have hv:0≤verV x.s:=by unfold verV;rw [qd (by omega),w64 (by omega) (by omega)];omega
 rw [show Vf x.s=verV x.s from rfl]
 simp only [Bool.or_eq_true,decide_eq_true_eq]
 rcases item_key x.l x.k with ⟨h1,h2⟩ | ⟨i,y,h1,h2,h3,-⟩
 ·rw [h1,h2];simp only [Option.map_none,Option.getD_none];constructor
  ·rintro (h | h)
   ·exact .inl h
   ·omega
  ·rintro (h | h)
   ·exact .inl h
   ·cases h
 ·rw [h1,h3]
  have e:x.l.getD i ⟨0,0,0⟩=y:=by rw [List.getD_eq_getElem?_getD,h2];rfl
  simp only [Option.map_some,Option.getD_some,decide_eq_true_eq,e]
theorem after_seven (x:Lok) (ln:Int) (hs:3≤x.s∧x.s≤9223372036854775807):After x.seven ((dk x x.i ln).verO (keyG x.l)) ((dk x x.i ln).verL (keyG x.l)):=by
 unfold Lok.seven Dc_u.verO Dc_u.verL
 by_cases h:x.skips=true
 ·rw [qf h,qf ((skips_iff x ln hs).2 h),qf ((skips_iff x ln hs).2 h)]
  exact after_on { x with line:=7 } ln
 ·rw [qd h,qd (fun e=>h ((skips_iff x ln hs).1 e)),qd (fun e=>h ((skips_iff x ln hs).1 e))]
  exact ⟨x.i,fun _=>rfl,rfl,fun _=>rfl⟩
theorem seven_l (x:Lok):x.seven.l=x.l:=by unfold Lok.seven Lok.on;split <;> (try split) <;> rfl
theorem qcn (x:Lok):x.on.l=x.l:=by unfold Lok.on;split <;> rfl
def DkIs (w:World) (b m n:Nat) (x:Lok):Prop:=∃ cell,(x.line≠0→cell=x.i)∧DcAt w b m (dk x cell (lnD x))∧GMap w m n (mapG (keyG x.l))
theorem DkIs.kept {S:List Nat} {w w':World} {b m n:Nat} {x:Lok} (h:DkIs w b m n x) (F:Fr S w w') (hb:b∉S) (hm:m∉S):DkIs w' b m n x:=by
 obtain ⟨cell,h1,h2,h3⟩:=h
 exact ⟨cell,h1,Ob.kept h2 F hb,h3.kept F hm⟩
theorem DkIs.lt {w:World} {b m n:Nat} {x:Lok} (h:DkIs w b m n x):b<w.heap.size∧m<w.heap.size:=by
 obtain ⟨cell,h1,h2,h3⟩:=h
 exact ⟨h2.lt,h3.lt⟩
structure LkS (x:Lok):Prop where
 hi:-9223372036854775808≤x.lo∧x.hi≤9223372036854775807
 s:3≤x.line→x.s≤9223372036854775807
 s3:x.line=3→x.s=1∨3≤x.s
 s7:x.line=7→3≤x.s
 k:4≤x.line→x.lo≤x.k∧x.k≤x.hi
theorem lks_on {x:Lok} (h:-9223372036854775808≤x.lo∧x.hi≤9223372036854775807):LkS x.on:=by
 unfold Lok.on
 split <;> exact ⟨h,fun e=>by simp at e,fun e=>by simp at e,fun e=>by simp at e,fun e=>by simp at e⟩
theorem lks_seven {x:Lok} (h:-9223372036854775808≤x.lo∧x.hi≤9223372036854775807) (h1:x.s≤9223372036854775807) (h2:3≤x.s) (h3:x.lo≤x.k∧x.k≤x.hi):LkS x.seven:=by
 unfold Lok.seven
 split
 ·exact lks_on h
 ·exact ⟨h,fun _=>h1,fun e=>by simp at e,fun _=>h2,fun _=>h3⟩
theorem LkS.new (c:Cf) (chunk lo hi most:Int) (h:-9223372036854775808≤lo∧hi≤9223372036854775807):LkS (Lok.new c chunk lo hi most) :=
 ⟨h,fun e=>by simp [Lok.new] at e,fun e=>by simp [Lok.new] at e,fun e=>by simp [Lok.new] at e,fun e=>by simp [Lok.new] at e⟩
theorem LkS.step {x:Lok} (h:LkS x) (s:St) (hs:∀ p,qw s.l p≤9223372036854775807):LkS (x.step s).1:=by
 unfold Lok.step
 split
 ·rename_i hl
  unfold Lok.live at hl
  simp only [Bool.and_eq_true,decide_eq_true_eq] at hl
  simp only
  unfold Lok.next Lok.told
  by_cases l1:x.line=1
  ·rw [qf l1];exact lks_on h.hi
  rw [qd l1]
  by_cases l2:x.line=2
  ·rw [qf l2,qd l1,qf l2]
   split
   ·exact lks_on h.hi
   ·exact ⟨h.hi,fun _=>hs _,fun _=>by simp only;omega,fun e=>by simp at e,fun e=>by simp at e⟩
  rw [qd l2]
  by_cases l3:x.line=3
  ·rw [qf l3,qd l1,qd l2,qf l3]
   have h1:=h.s (by omega)
   have h2:=h.s3 l3
   split
   ·exact lks_on h.hi
   ·split
    ·exact ⟨h.hi,fun _=>h1,fun e=>by simp at e,fun e=>by simp at e,fun _=>by simp only;omega⟩
    ·exact lks_seven h.hi h1 (by simp only;omega) (by simp only;omega)
  rw [qd l3]
  have h1:=h.s (by omega)
  have h4:=h.k (by omega)
  by_cases l4:x.line=4
  ·rw [qf l4];exact ⟨h.hi,fun _=>h1,fun e=>by simp at e,fun e=>by simp at e,fun _=>h4⟩
  rw [qd l4]
  by_cases l5:x.line=5
  ·rw [qf l5];exact ⟨h.hi,fun _=>h1,fun e=>by simp at e,fun e=>by simp at e,fun _=>h4⟩
  rw [qd l5]
  by_cases l6:x.line=6
  ·rw [qf l6,qd l1,qd l2,qd l3,qd l4,qf l6]
   split
   ·exact lks_on h.hi
   ·exact lks_seven h.hi (hs _) (by simp only;omega) h4
  rw [qd l6];exact lks_on h.hi
 ·exact h
end Go.Proofs.YtaccfepnhmgagaaGreatDoor.Dk_u
namespace Go.Proofs.YtaccfepnhmgagaaGreatDoor.Dk_u
open Go.RowKit Go.Maps Go.Proofs.YtaccfepnhmgagaaGreatDoor.Ar Go.Proofs.YtaccfepnhmgagaaGreatDoor.Mx Go.Proofs.YtaccfepnhmgagaaGreatDoor.Vw Go.Proofs.YtaccfepnhmgagaaGreatDoor.Ch
set_option linter.unusedVariables false
set_option linter.unusedSimpArgs false
theorem access_any (x:Lok) (hl:x.live=true) (ok:Xp x) (ks:LkS x) (b m n p q:Nat) (s:St) (hs:∀ p,qw s.l p≤9223372036854775807) (w:World) (t:Word.Tab w) (ht:1≠p∧1≠q) (hn:n<100000) (hne:b≠p∧b≠q∧b≠m∧m≠p∧m≠q) (h:DcAt w b m (dk x x.i (x.line - 1))) (hA:Ar w p q s) (hm:GMap w m n (mapG (keyG x.l))) :
  Calls Tryz.prog 88 #[.pointer (some ⟨b,0,none⟩),.pointer (some ⟨p,0,none⟩)] w fun e w'=>∃ y,DkPost b m n p q w (keyG (x.next (x.told s)).l) y (lnD (x.next (x.told s))) (x.act s) e w'∧After (x.next (x.told s)) y (lnD (x.next (x.told s))):=by
 have hcl:-1≤x.i∧x.i≤1000:=⟨by have:=ok.i0;omega,by have:=ok.i1;omega⟩
 unfold Lok.live at hl
 simp only [Bool.and_eq_true,decide_eq_true_eq] at hl
 have fin:∀ {y:Dc_u} {ln:Int} {z:Lok} {g:Int→Option It} {s':St},After z y ln→z=x.next (x.told s)→g=keyG z.l→s'=x.act s→∀ e w',DkPost b m n p q w g y ln s' e w'→∃ y,DkPost b m n p q w (keyG (x.next (x.told s)).l) y (lnD (x.next (x.told s))) (x.act s) e w'∧After (x.next (x.told s)) y (lnD (x.next (x.told s))):=fun {y ln z g s'} ha hz hg hs' e w' hp=>by
  subst hz hg hs'
  obtain ⟨cell,h1,h2,h3⟩:=ha
  subst h2
  exact ⟨y,hp,⟨cell,h1,rfl,h3⟩⟩
 by_cases l1:x.line=1
 ·have e1:x.told s=qw s.l (wrap64 (x.chunk+1)):=by unfold Lok.told;rw [qf l1]
  have e2:x.next (x.told s)=({ x with count:=max 0 (min (x.told s) x.c.c),i:=-1 }:Lok).on:=by unfold Lok.next;rw [qf l1]
  have e3:x.act s=s.load (wrap64 (x.chunk+1)):=by unfold Lok.act;rw [qf l1]
  refine (access0 (dk x x.i (x.line - 1)) _ (by show x.line - 1=0;omega) b m n p q s w hne h hA hm).mono (fin (z:=({ x with count:=max 0 (min (x.told s) x.c.c),i:=-1 }:Lok).on) ?_ e2.symm (by rw [qcn]) e3.symm)
  have hcc:0≤x.c.c:=by have:=ok.c.c2;have:=ok.c.t1;omega
  have hct:min (max (qw s.l (wrap64 (x.chunk+1))) 0) x.c.c=max 0 (min (x.told s) x.c.c):=by rw [e1];omega
  show After _ (({ dk x x.i (x.line - 1) with count:=min (max (qw s.l (wrap64 (x.chunk+1))) 0) x.c.c }:Dc_u).stand 0) (({ dk x x.i (x.line - 1) with count:=min (max (qw s.l (wrap64 (x.chunk+1))) 0) x.c.c }:Dc_u).standL 0)
  rw [hct]
  generalize max 0 (min (x.told s) x.c.c)=ct
  unfold Dc_u.stand Dc_u.standL Lok.on dk After lnD
  simp only
  by_cases hh:ct≤0
  ·rw [qf hh,qf hh,qf (by omega)];exact ⟨x.i,fun e=>absurd rfl e,rfl,fun _=>rfl⟩
  ·rw [qd hh,qd hh,qd (by omega)];exact ⟨0,fun _=>rfl,rfl,fun _=>rfl⟩
 by_cases l2:x.line=2
 ·have e1:x.told s=qw s.l x.sa:=by unfold Lok.told;rw [qd l1,qf l2]
  have e3:x.act s=s.load x.sa:=by unfold Lok.act;rw [qd l1,qf l2]
  have e2:x.next (x.told s)=if x.told s≤0∨x.told s=2 then ({ x with s:=x.told s,line:=3 }:Lok).on else { x with s:=x.told s,line:=3 }:=by unfold Lok.next;rw [qd l1,qf l2]
  refine (access1 (dk x x.i (x.line - 1)) _ (by show x.line - 1=1;omega) b m n p q s w hcl hne h hA hm).mono (fin (z:=x.next (x.told s)) ?_ rfl ?_ e3.symm)
  ·rw [e2,e1]
   show After _ ({ dk x x.i (x.line - 1) with s:=qw s.l x.sa }:Dc_u).stO ({ dk x x.i (x.line - 1) with s:=qw s.l x.sa }:Dc_u).stL
   generalize qw s.l x.sa=v
   unfold Dc_u.stO Dc_u.stL
   by_cases hv:v≤0∨v=2
   ·rw [qf hv,qf (show v≠1∧v<3 by omega),qf (show v≠1∧v<3 by omega)]
    exact after_on { x with s:=v,line:=3 } (x.line - 1)
   ·rw [qd hv,qd (show ¬ (v≠1∧v<3) by omega),qd (show ¬ (v≠1∧v<3) by omega)]
    exact ⟨x.i,fun _=>rfl,rfl,fun _=>rfl⟩
  ·rw [e2];split
   ·rw [qcn]
   ·rfl
 by_cases l3:x.line=3
 ·have e1:x.told s=qw s.l (wrap64 (x.sa+1)):=by unfold Lok.told;rw [qd l1,qd l2,qf l3]
  have e3:x.act s=s.load (wrap64 (x.sa+1)):=by unfold Lok.act;rw [qd l1,qd l2,qf l3]
  have e2:x.next (x.told s)=if x.told s<x.lo∨x.hi<x.told s then ({ x with k:=x.told s }:Lok).on else if x.s=1 then { x with k:=x.told s,line:=4 } else ({ x with k:=x.told s }:Lok).seven:=by unfold Lok.next;rw [qd l1,qd l2,qf l3]
  have h3:=ks.s3 l3
  have h4:=ks.s (by omega)
  refine (access2 (dk x x.i (x.line - 1)) _ (by show x.line - 1=2;omega) b m n p q s w hcl ks.hi hne h hA hm).mono (fin (z:=x.next (x.told s)) ?_ rfl ?_ e3.symm)
  ·rw [e2,e1]
   show After _ (({ dk x x.i (x.line - 1) with k:=qw s.l (wrap64 (x.sa+1)) }:Dc_u).kyO (keyG x.l)) (({ dk x x.i (x.line - 1) with k:=qw s.l (wrap64 (x.sa+1)) }:Dc_u).kyL (keyG x.l))
   generalize qw s.l (wrap64 (x.sa+1))=v
   unfold Dc_u.kyO Dc_u.kyL
   show After _ (if v<x.lo∨x.hi<v then (dk { x with k:=v } x.i (x.line - 1)).on else if x.s=1 then dk { x with k:=v } x.i (x.line - 1) else (dk { x with k:=v } x.i (x.line - 1)).verO (keyG x.l)) (if v<x.lo∨x.hi<v then (dk { x with k:=v } x.i (x.line - 1)).onL else if x.s=1 then 3 else (dk { x with k:=v } x.i (x.line - 1)).verL (keyG x.l))
   by_cases hv:v<x.lo∨x.hi<v
   ·rw [qf hv,qf hv,qf hv]
    exact after_on { x with k:=v } (x.line - 1)
   ·rw [qd hv,qd hv,qd hv]
    by_cases hs1:x.s=1
    ·rw [qf hs1,qf hs1,qf hs1]
     exact ⟨x.i,fun _=>rfl,rfl,fun _=>rfl⟩
    ·rw [qd hs1,qd hs1,qd hs1]
     exact after_seven { x with k:=v } (x.line - 1) ⟨by simp only;omega,h4⟩
  ·rw [e2];split
   ·rw [qcn]
   ·split
    ·rfl
    ·rw [seven_l]
 have hk4:=ks.k (by omega)
 have hwf:(Lit.int .i64 x.k).wf=true:=WalkArith.wf_i64 (by have:=ks.hi;omega)
 by_cases l4:x.line=4
 ·have e1:x.told s=qw s.l 1:=by unfold Lok.told;rw [qd l1,qd l2,qd l3,qf l4]
  have e3:x.act s=s.load 1:=by unfold Lok.act;rw [qd l1,qd l2,qd l3,qf l4]
  have e2:x.next (x.told s) = { x with g:=x.told s,line:=5 }:=by unfold Lok.next;rw [qd l1,qd l2,qd l3,qf l4]
  refine (access3 (dk x x.i (x.line - 1)) _ (by show x.line - 1=3;omega) b m n p q s w hne h hA hm).mono (fin (z:={ x with g:=x.told s,line:=5 }) ?_ e2.symm rfl e3.symm)
  rw [e1];exact ⟨x.i,fun _=>rfl,rfl,fun _=>rfl⟩
 by_cases l5:x.line=5
 ·have e3:x.act s=s.swap x.sa 1 (yc x.g):=by unfold Lok.act;rw [qd l1,qd l2,qd l3,qd l4,qf l5]
  have e2:x.next (x.told s) = { x with line:=6 }:=by unfold Lok.next;rw [qd l1,qd l2,qd l3,qd l4,qf l5]
  refine (access4 (dk x x.i (x.line - 1)) _ (by show x.line - 1=4;omega) b m n p q s w t ht hne h hA hm).mono (fin (z:={ x with line:=6 }) ?_ e2.symm rfl e3.symm)
  exact ⟨x.i,fun _=>rfl,rfl,fun _=>rfl⟩
 by_cases l6:x.line=6
 ·have e1:x.told s=qw s.l x.sa:=by unfold Lok.told;rw [qd l1,qd l2,qd l3,qd l4,qf l6]
  have e3:x.act s=s.load x.sa:=by unfold Lok.act;rw [qd l1,qd l2,qd l3,qd l4,qd l5,qf l6]
  have e2:x.next (x.told s)=if x.told s<3 then ({ x with s:=x.told s }:Lok).on else ({ x with s:=x.told s }:Lok).seven:=by unfold Lok.next;rw [qd l1,qd l2,qd l3,qd l4,qd l5,qf l6]
  refine (access5 (dk x x.i (x.line - 1)) _ (by show x.line - 1=5;omega) b m n p q s w hcl hwf hne h hA hm).mono (fin (z:=x.next (x.told s)) ?_ rfl ?_ e3.symm)
  ·rw [e2,e1]
   show After _ (({ dk x x.i (x.line - 1) with s:=qw s.l x.sa }:Dc_u).gvO (keyG x.l)) (({ dk x x.i (x.line - 1) with s:=qw s.l x.sa }:Dc_u).gvL (keyG x.l))
   have hv2:=hs x.sa
   generalize qw s.l x.sa=v at *
   unfold Dc_u.gvO Dc_u.gvL
   by_cases hv:v<3
   ·rw [qf hv,qf (show v<3 from hv),qf (show v<3 from hv)]
    exact after_on { x with s:=v } (x.line - 1)
   ·rw [qd hv,qd (show ¬ v<3 from hv),qd (show ¬ v<3 from hv)]
    exact after_seven { x with s:=v } (x.line - 1) ⟨by simp only;omega,hv2⟩
  ·rw [e2];split
   ·rw [qcn]
   ·rw [seven_l]
 ·have l7:x.line=7:=by omega
  have e1:x.told s=qw s.l (wrap64 (x.sa+2)):=by unfold Lok.told;rw [qd l1,qd l2,qd l3,qd l4,qd l6]
  have e3:x.act s=s.load (wrap64 (x.sa+2)):=by unfold Lok.act;rw [qd l1,qd l2,qd l3,qd l4,qd l5,qd l6]
  have e2:x.next (x.told s)=({ x with l:=q1d x.l ⟨x.k,Vf x.s,x.told s⟩ }:Lok).on:=by unfold Lok.next;rw [qd l1,qd l2,qd l3,qd l4,qd l5,qd l6]
  refine (access6 (dk x x.i (x.line - 1)) _ (by show x.line - 1=6;omega) b m n p q s w hcl hwf hn hne h hA hm).mono (fin (z:=({ x with l:=q1d x.l ⟨x.k,Vf x.s,x.told s⟩ }:Lok).on) ?_ e2.symm ?_ e3.symm)
  ·exact after_on { x with l:=q1d x.l ⟨x.k,Vf x.s,x.told s⟩ } (x.line - 1)
  ·rw [qcn,key_put,e1];rfl
theorem on_line (x:Lok):0≤x.on.line∧x.on.line≤7:=by unfold Lok.on;split <;> simp
theorem seven_line (x:Lok):0≤x.seven.line∧x.seven.line≤7:=by
 unfold Lok.seven;split
 ·exact on_line _
 ·simp
theorem next_line (x:Lok) (v:Int):0≤(x.next v).line∧(x.next v).line≤7:=by
 unfold Lok.next
 repeat' split
 all_goals first | exact on_line _ | exact seven_line _ | (simp only;omega)
set_option maxHeartbeats 1600000 in
theorem dstep_any (x:Lok) (ok:Xp x) (ks:LkS x) (hx:0≤x.line∧x.line≤7) (b m n p q:Nat) (s:St) (hs:∀ p,qw s.l p≤9223372036854775807) (w:World) (t:Word.Tab w) (ht:1≠p∧1≠q) (hn:n<100000) (hne:b≠p∧b≠q∧b≠m∧m≠p∧m≠q) (h:DkIs w b m n x) (hA:Ar w p q s) :
  Calls Tryz.prog 59 #[.pointer (some ⟨b,0,none⟩),.pointer (some ⟨p,0,none⟩)] w fun e w'=>e = .returned (.bool (decide ((x.step s).1.line=0)))∧(∃ k,k≤n+1∧DkIs w' b m k (x.step s).1)∧Ar w' p q (x.step s).2∧Fr [b,m,p,q] w w':=by
 obtain ⟨cell,h1,h2,h3⟩:=h
 by_cases h0:x.line=0
 ·have e:x.step s=(x,s):=by unfold Lok.step Lok.live;rw [h0];rfl
  rw [e,show decide ((x,s).1.line=0)=true from decide_eq_true h0]
  have hln:lnD x=7:=by unfold lnD;rw [qf h0]
  have HS:=q9 (qc (show DkIs w b m n x from ⟨cell,h1,h2,h3⟩) hA)
  rw [hln] at h2
  obtain ⟨-,-,-,-,-,-,-,c7,-,-,-,-⟩:=dc_cells h2
  clear h0 h1 h3 hA e hln
  go_enter Tryz.func59,Tryz.ntmps59
  have c7':w.cell? ⟨b,7,none⟩=some (.int .i64 7):=c7
  clear c7
  go_wp2
  go_ret
  exact ⟨rfl,⟨n,Nat.le_succ n,HS.out.1⟩,HS.out.2,Fr.refl _ _⟩
 ·have hlv:x.live=true:=by unfold Lok.live;simp only [Bool.and_eq_true,decide_eq_true_eq];omega
  have hln:lnD x=x.line - 1:=by unfold lnD;rw [qd h0]
  rw [hln,h1 h0] at h2
  have e:x.step s=(x.next (x.told s),x.act s):=by unfold Lok.step;rw [qf hlv]
  rw [e]
  have HX:=q9 (access_any x hlv ok ks b m n p q s hs w t ht hn hne h2 hA h3)
  obtain ⟨-,-,-,-,-,-,-,c7,-,-,-,-⟩:=dc_cells h2
  have c7':w.cell? ⟨b,7,none⟩=some (.int .i64 (x.line - 1)):=c7
  have b1:(x.line - 1 != 7)=true:=by simp;omega
  have HN:=q9 (qc hne (next_line x (x.told s)))
  clear c7 h0 h1 hlv hln e hx h2 h3 hA hne hn ok ks hs ht t
  generalize x.next (x.told s)=z at *
  generalize x.act s=s' at *
  go_enter Tryz.func59,Tryz.ntmps59
  go_wp2_with fail
  refine HX.out.mono ?_;rintro e w1 ⟨y,⟨rfl,k1,k2,⟨k,k3,k4⟩,F1⟩,cell',a1,-,a3⟩
  have HP:=q9 (qc a1 (qc a3 (qc k2 (qc k3 (qc k4 F1)))))
  clear HX a1 a3 k2 k3 k4 F1 c7'
  obtain ⟨-,-,-,-,-,-,-,c7,-,-,-,-⟩:=dc_cells k1
  have z7_u:=k1.frozen
  go_wp2
  go_ret
  obtain ⟨a1,a3,k2,k3,k4,F1⟩:=HP.out
  obtain ⟨⟨hbp,hbq,hbm,hmp,hmq⟩,hz⟩:=HN.out
  refine ⟨?_,⟨k,k3,cell',a1,?_,?_⟩,?_,?_⟩
  ·show Ending.returned (.bool (lnD z == 7))=_
   have:(lnD z == 7)=decide (z.line=0):=by
    unfold lnD
    by_cases e:z.line=0
    ·rw [qf e,decide_eq_true e];rfl
    ·rw [qd e,decide_eq_false e];simp;omega
   rw [this]
  ·rw [← a3 (lnD z)];exact k1.set (i:=7) (.int .i64 (lnD z))
  ·exact k4.kept (Fr.setCell (S:=[b]) (b:=b) (i:=7) _ (by simp)) (by simp;exact hbm.symm)
  ·exact Ar.setO k2 hbp hbq _
  ·exact F1.setCell' (b:=b) _ (by simp)
theorem dnew_any (c:Cf) (chunk lo hi most:Int) (w:World):Calls Tryz.prog 58 #[c.val,.int .i64 chunk,.int .i64 lo,.int .i64 hi,.int .i64 most] w fun e w'=>∃ b m,e = .returned (.pointer (some ⟨b,0,none⟩))∧w.heap.size≤b∧w.heap.size≤m∧b≠m∧DkIs w' b m 0 (Lok.new c chunk lo hi most)∧Fr [] w w':=by
 unfold Cf.val
 obtain ⟨c0,c1,c2,c3⟩:=Pl.yn (Go.heap_alloc_new w (.cells #[.int .i64 c.t,.int .i64 c.c,.int .i64 c.wd,.int .i64 c.v] 23))
 have F0:=(Fr.refl [] w).alloc (.cells #[.int .i64 c.t,.int .i64 c.c,.int .i64 c.wd,.int .i64 c.v] 23)
 go_enter Tryz.func58,Tryz.ntmps58
 have hmm:=@run_makeMap Tryz.prog
 have m0:=GMap.made (w.alloc (.cells #[.int .i64 c.t,.int .i64 c.c,.int .i64 c.wd,.int .i64 c.v] 23))
 go_wp2
 go_ret
 rw [Yp] at m0
 refine ⟨w.heap.size+1+1,w.heap.size+1,rfl,by omega,by omega,by omega,⟨0,fun _=>rfl,Ob.newAt (by rw [Yp,Yp]) _ _,?_⟩,(F0.alloc _).alloc _⟩
 exact gm_alloc m0 _
end Go.Proofs.YtaccfepnhmgagaaGreatDoor.Dk_u
namespace Go.Proofs.YtaccfepnhmgagaaGreatDoor.Dk_u
open Go.RowKit Go.Maps Go.Sort Go.Shelf Go.Proofs.YtaccfepnhmgagaaGreatDoor.Ar Go.Proofs.YtaccfepnhmgagaaGreatDoor.Mx Go.Proofs.YtaccfepnhmgagaaGreatDoor.Vw Go.Proofs.YtaccfepnhmgagaaGreatDoor.Ch Go.Proofs.YtaccfepnhmgagaaGreatDoor.Kp
set_option linter.unusedVariables false
set_option linter.unusedSimpArgs false
theorem ownB_lt {w:World} {B sz n:Nat} {E:TypeId} {v:Value} {cs:List Value} (h:w.ownsRow B E sz v n cs):∀ i,i∈v.ownBlock.toList→B≤i:=by
 intro i hi
 rcases h.2 with ⟨rfl,_⟩ | ⟨g,cap,cur,rfl,hb,_⟩
 ·simp [Value.ownBlock] at hi
 ·simp [Value.ownBlock] at hi;omega
def cfK (x y:It):Int:=cfZ x.k y.k
theorem cfK_lt {x y:It}:cfK x y<0↔x.k<y.k:=by
 unfold cfK cfZ
 split
 ·omega
 ·split <;> omega
theorem cfK_swo:SWO (fun x y:It=>decide (cfK x y<0)) where
 irrefl x:=by simp [cfK_lt]
 trans x y z h1 h2:=by simp only [decide_eq_true_eq,cfK_lt] at *;omega
 ntrans x y z h1 h2:=by simp only [decide_eq_false_iff_not,cfK_lt] at *;omega
set_option maxHeartbeats 1600000 in
theorem dcmp_any (x y:It) (w:World):Calls Tryz.prog 91 #[.agg (fT x).toArray,.agg (fT y).toArray] w fun e w'=>e = .returned (.int .i64 (cfK x y))∧Dr.Fr [] w w':=by
 have B1:=Go.heap_alloc_new (w.alloc (.cells (fT x).toArray 65)) (.cells (fT y).toArray 65)
 have B0_u:=(Below.heap_alloc (w.alloc (.cells (fT x).toArray 65)) (.cells (fT y).toArray 65) w.heap.size (by simp)).trans (Go.heap_alloc_new w (.cells (fT x).toArray 65))
 have F0:Dr.Fr [] w ((w.alloc (.cells (fT x).toArray 65)).alloc (.cells (fT y).toArray 65)):=((Dr.Fr.refl _ _).alloc _).alloc _
 rw [show (w.alloc (.cells (fT x).toArray 65)).heap.size=w.heap.size+1 by simp] at B1
 obtain ⟨a0,-,-⟩:=cells3 B0_u
 obtain ⟨b0,-,-⟩:=cells3 B1
 clear B0_u B1
 go_enter Tryz.func91,Tryz.ntmps91
 go_wp2_with fail
 refine (cmp_any x.k y.k _).mono ?_;rintro e w1 ⟨rfl,rfl⟩
 go_wp2
 go_ret
 exact ⟨rfl,F0⟩
theorem dcmpLays (blk off size:Nat) (w:World):CmpLays Tryz.prog 91 #[] fT 3 cfK blk off size w :=
 fun m os dk _ x y=>(dcmp_any x y _).mono fun e w' h=>⟨h.1,h.2.grow⟩
theorem len64_0 (w:World):Calls Tryz.prog 174 #[.int .u64 0] w fun e w'=>e = .returned (.int .i64 0)∧w'=w:=by
 go_enter Tryz.func174,Tryz.ntmps174
 go_wp2
 go_ret
 exact ⟨by kernel_rfl,rfl⟩
theorem len_0 (w:World):Calls Tryz.prog 148 #[.int .u64 0] w fun e w'=>e = .returned (.int .i64 0)∧w'=w:=by
 go_enter Tryz.func148,Tryz.ntmps148
 go_wp2_with fail
 refine (len64_0 _).mono ?_;rintro e w1 ⟨rfl,rfl⟩
 go_wp2
 go_ret
 exact ⟨rfl,rfl⟩
theorem insk_nil (w:World) (c:Value):Calls Tryz.prog 165 #[.slice none 0 0,.int .i64 0,.int .i64 0,c] w fun e w'=>e = .returned (.tuple #[])∧w'=w:=by
 go_enter Tryz.func165,Tryz.ntmps165
 go_wp2
 go_loopw [8] (fun x wr=>x = .int .i64 1∧wr=w) (fun _ _=>0)
 case atStart=>exact ⟨rfl,rfl⟩
 ·obtain ⟨rfl,rfl⟩:=hrel
  go_wp2
  go_end0
  exact ⟨rfl,rfl⟩
theorem pdq_nil (w:World) (c:Value):Calls Tryz.prog 147 #[.slice none 0 0,.int .i64 0,.int .i64 0,.int .i64 0,c] w fun e w'=>e = .returned (.tuple #[])∧w'=w:=by
 go_enter Tryz.func147,Tryz.ntmps147
 go_wp2
 go_loopw [1,2,3] (fun a b l wr=>a = .int .i64 0∧b = .int .i64 0∧l = .int .i64 0∧wr=w) (fun _ _ _ _=>0)
 case atStart=>exact ⟨rfl,rfl,rfl,rfl⟩
 ·obtain ⟨rfl,rfl,rfl,rfl⟩:=hrel
  go_wp2_with fail
  refine (insk_nil _ _).mono ?_;rintro e w1 ⟨rfl,rfl⟩
  go_wp2
  refine bodyPost_ret (results_none rfl _ _ _) rfl ?_
  exact ⟨rfl,rfl⟩
set_option maxHeartbeats 1600000 in
theorem sf_nil (w:World) (c:Value):Calls Tryz.prog 125 #[.slice none 0 0,c] w fun e w'=>e = .returned (.tuple #[])∧w'=w:=by
 go_enter Tryz.func125,Tryz.ntmps125
 go_wp2_with fail
 refine (len_0 _).mono ?_;rintro e w1 ⟨rfl,rfl⟩
 go_wp2_with fail
 refine (pdq_nil _ c).mono ?_;rintro e w1 ⟨rfl,rfl⟩
 go_wp2
 go_end0
 exact ⟨rfl,rfl⟩
set_option maxHeartbeats 1600000 in
theorem dsfn_any (u:Value) (xs:List It) (w:World) (B:Nat) (h:w.ownsRow B 65 3 u xs.length (xs.flatMap fT)) (hl:xs.length≤1000) :
  Calls Tryz.prog 125 #[u,.func (.func 91) #[] #[]] w fun e w' =>
   e = .returned (.tuple #[])∧∃ c:List It,c.Perm xs∧(c.Pairwise fun a b=>a.k≤b.k)∧w'.ownsRow B 65 3 u c.length (c.flatMap fT)∧Ar.Fr u.ownBlock.toList w w':=by
 rcases h.2 with ⟨rfl,h0⟩ | ⟨g,cap,cur,rfl,hbase,hb,h1,h2,h3,h4⟩
 ·obtain rfl:=List.eq_nil_of_length_eq_zero h0
  refine Calls.mono (sf_nil w _) ?_
  rintro e w' ⟨rfl,rfl⟩
  exact ⟨rfl,[],List.Perm.refl _,List.Pairwise.nil,h,Ar.Fr.refl _ _⟩
 ·have R:=rowK_of hb h4
  have H:=AnyQ.slices_SortFunc Tryz.sortF 3 (by intro w;kernel_rfl) (by intro w;kernel_rfl) fT (fun _=>rfl) R.h1 cfK cfK_swo 91 #[] g 0 cap xs.toArray w (enters_of Tryz.func91 (by kernel_rfl) rfl) (dcmpLays g 0 _ w) R.hH R.hblk (by simp;omega)
  refine Calls.mono H ?_
  rintro e w' ⟨rfl,d',n,os,hp,hs,rfl⟩
  have hsz:d'.size=xs.length:=by have:=hp.1;simpa using this
  obtain ⟨o1,o2⟩:=own_swk hbase hb h1 h2 h3 (⟨n,os,rfl⟩:SWK fT 3 w g 0 d' _) hsz
  refine ⟨rfl,d'.toList,?_,?_,?_,o2.mono (by simp [Value.ownBlock])⟩
  ·have:=hp.2.2
   rw [show (d'.extract 0 xs.toArray.size)=d' by rw [show xs.toArray.size=d'.size by simp [hsz]];simp,show (xs.toArray.extract 0 xs.toArray.size)=xs.toArray by simp] at this
   simpa using this
  ·rw [List.pairwise_iff_getElem]
   intro i j hi hj hij
   simp at hi hj
   have:=hs i j (Nat.zero_le _) hij (by simp;omega)
   simp only [ltOf,decide_eq_false_iff_not,cfK_lt] at this
   simp [hi,hj] at this
   exact this
  ·rw [show d'.toList.length=xs.length by simp [hsz]];exact o1
set_option maxHeartbeats 1600000 in
theorem dsfunc_any (g:Nat) (lb:Array Value) (eg:∀ args w,(callFunc g args).run Tryz.prog w = .ok (.enter g args) w) (S:List It→Prop) (N:Nat) (hN:N≤1000) (w:World) (hseq:Feeds 3 Tryz.prog g lb ApT.enc S N w) (hS:∀ ss,S ss→ss.length≤1000) :
  Calls Tryz.prog 89 #[.func (.func g) #[] lb,.func (.func 91) #[] #[]] w fun e w'=>∃ u ss c,e = .returned u∧S ss∧List.Perm c ss∧(List.Pairwise (fun a b:It=>a.k≤b.k) c)∧w'.ownsRow w.heap.size 65 3 u c.length (c.flatMap fT)∧Ar.Fr [] w w':=by
 have H:=callsIn_wide.1 (ApT.collect 5 (by omega) g lb eg S N hN w hseq)
 clear hseq
 go_enter Tryz.func89,Tryz.ntmps89
 go_wp2_with fail
 refine H.mono ?_
 rintro e w1 ⟨u,ss,rfl,hs,hrow,hb⟩
 have H2_u:=dsfn_any u ss w1 w.heap.size hrow (hS ss hs)
 have F1:=ApT.fr_of hb
 have HO:=q9 (ownB_lt hrow)
 clear H hrow hb
 go_wp2_with fail
 refine H2_u.mono ?_
 rintro e w2 ⟨rfl,c,hp,hc,hrow2,F2⟩
 have F3:=F1.own F2 HO.out
 have HC:=q9 (qc hp hc)
 clear H2_u hp hc
 go_wp2_with fail
 go_ret
 exact ⟨u,ss,c,rfl,hs,HC.out.1,HC.out.2,hrow2,F3⟩
end Go.Proofs.YtaccfepnhmgagaaGreatDoor.Dk_u
namespace Go.Proofs.YtaccfepnhmgagaaGreatDoor.Dk_u
open Go.RowKit Go.Maps Go.Sort Go.Shelf Go.Proofs.YtaccfepnhmgagaaGreatDoor.Ar Go.Proofs.YtaccfepnhmgagaaGreatDoor.Mx Go.Proofs.YtaccfepnhmgagaaGreatDoor.Vw Go.Proofs.YtaccfepnhmgagaaGreatDoor.Ch Go.Proofs.YtaccfepnhmgagaaGreatDoor.Kp
set_option linter.unusedVariables false
set_option linter.unusedSimpArgs false
structure ColI (g:Int→Option It) (left:Lit→Bool) (ss:List It):Prop where
 mem:∀ x,x∈ss↔g x.k=some x∧left (.int .i64 x.k)=false
 apart:ss.Pairwise fun a b=>a.k≠b.k
theorem q9p (a b:Int):(Lit.int .i64 a).sameKey (.int .i64 b)=true↔a=b:=by
 unfold Lit.sameKey
 simp
theorem ColI.step {g:Int→Option It} {left:Lit→Bool} {ss:List It} (h:ColI g left ss) (hg:∀ k y,g k=some y→y.k=k) {x:It} (hx:g x.k=some x) (hl:left (.int .i64 x.k)=true):ColI g (fun z=>left z && !z.sameKey (.int .i64 x.k)) (ss++[x]):=by
 constructor
 ·intro y
  rw [List.mem_append,h.mem]
  simp only [List.mem_singleton,Bool.and_eq_false_iff,Bool.not_eq_false']
  constructor
  ·rintro (⟨h1,h2⟩ | rfl)
   ·exact ⟨h1,.inl h2⟩
   ·exact ⟨hx,.inr ((q9p _ _).2 rfl)⟩
  ·rintro ⟨h1,h2 | h2⟩
   ·exact .inl ⟨h1,h2⟩
   ·rw [(q9p _ _).1 h2,hx] at h1
    exact .inr (qi h1).symm
 ·rw [List.pairwise_append]
  refine ⟨h.apart,by simp,fun a ha b hb=>?_⟩
  simp only [List.mem_singleton] at hb
  subst hb
  intro e1
  have:=((h.mem a).1 ha).2
  rw [e1,hl] at this
  cases this
theorem only_of {g:Int→Option It} (hg:∀ k y,g k=some y→y.k=k) {D:DataW Value} (hD:HoldsV D (mapG g)) {kv c:Value} {kl:Lit} (hk:keyOf Tryz.prog 3 kv=some kl) (hat:∀ zd,D.atKey kl zd = .held c):∃ x,g x.k=some x∧kl = .int .i64 x.k∧c=itV x:=by
 obtain ⟨k,-,rfl,-⟩:=Maps.keyOf_int_inv Tryz.underlying3 hk
 have h1:=has_true_of_atKey hat
 rw [(hD.2 k).1] at h1
 obtain ⟨v,hv⟩:=Option.isSome_iff_exists.1 h1
 have h2:=(hD.2 k).2 v hv (.held c)
 rw [hat] at h2
 unfold mapG at hv
 obtain ⟨x,hx,rfl⟩:=Option.map_eq_some_iff.1 hv
 refine ⟨x,?_,?_,?_⟩
 ·rw [hg _ _ hx];exact hx
 ·rw [hg _ _ hx]
 ·cases h2;rfl
theorem valuesI_any (b:Nat) (w:World):Calls Tryz.prog 90 #[.map (some b)] w fun e w'=>e = .returned (.func (.func 126) #[] #[.pointer (some ⟨w.heap.size,0,none⟩)])∧w'=w.alloc (.cells #[.map (some b)] 129):=by
 go_enter Tryz.func90,Tryz.ntmps90
 go_wp2_with fail
 go_ret
 exact ⟨rfl,rfl⟩
set_option maxRecDepth 100000 in
set_option maxHeartbeats 1600000 in
theorem feedsI (n:Nat) (hn:1≤n) (Bm b nn:Nat) (g:Int→Option It) (hg:∀ k y,g k=some y→y.k=k) (w:World) (hm:w.cell? ⟨Bm,0,none⟩=some (.map (some b))) (h:GMap w b nn (mapG g)) :
  Feeds n Tryz.prog 126 #[.pointer (some ⟨Bm,0,none⟩)] ApT.enc (fun ys=>(∀ x,x∈ys↔g x.k=some x)∧(ys.Pairwise fun a b=>a.k≠b.k)∧ys.length≤nn) nn w:=by
 intro l J W hW hJ hB hY h0
 have hm0:=(ApT.fr_of hW).cell hm (by simp)
 obtain ⟨D,hown0,hD⟩:=h
 have hsz:=hown0.size_le
 have hown:W.ownsMap Tryz.prog 3 asIs b nn D:=by
  have hbl:=hown0.lt
  obtain ⟨es,clock,hb,Ft_u,hs,hDD⟩:=hown0
  exact ⟨es,clock,(hW.block b hbl).trans hb,Ft_u,hs,hDD⟩
 clear hown0 hm
 refine callsIn_of_wp Tryz.func126 rfl trivial ?_ rfl
 simp only [Tryz.ntmps126,List.size_toArray,List.length_cons,List.length_nil,Nat.reduceAdd,Nat.reduceSub,Array.replicate_succ,Array.replicate_zero,List.push_toArray,List.append_toArray,List.nil_append,List.cons_append]
 gi_wp2_with (first
  | (gi_at_range;refine wpListIn_range_own _ rfl _ 129 rfl 3 65 intKeyV Tryz.underlying129 _ b nn _ rfl hown ?_;intro w0 hrg0 hg0 hs0)
  | gi_in)
 go_frame
 gi_loopw [4] (fun _ wr=>∃ (left:Lit→Bool) (cnt:Nat) (ss:List It),wr.ranges Tryz.prog 3 asIs b W.heap.size nn D left cnt∧ss.length+cnt≤Maps.size D∧ColI g left ss∧J ss wr)
  (fun _ wr=>wr.rangeLeft b W.heap.size)
 case atStart =>
  exact ⟨_,_,[],hrg0,by simp,⟨fun x=>⟨fun h=>by simp at h,fun ⟨h1,h2⟩=>by rw [(hD.2 x.k).1] at h2;unfold mapG at h2;rw [h1] at h2;cases h2⟩,List.Pairwise.nil⟩,hJ [] W w0 none h0 hg0 (fun r e=>by cases e)⟩
 ·obtain ⟨left,cnt,ss,hrg,hcs,hC,hJs⟩:=hrel
  gi_wp2_with (first
   | (gi_at_next;refine wpListIn_next_ranges _ rfl _ rfl 3 intKeyV asIs (id:Value→Value) (id:Value→Value) (fun key kl hk=>⟨key,rfl⟩) (fun v _ _=>⟨v,rfl⟩) b W.heap.size nn _ _ _ rfl hrg ?_ ?_)
   | gi_in)
  ·intro hc0 hl0
   gi_wp2
   go_end0
   exact ⟨⟨_,rfl⟩,ss,⟨fun x=>by rw [hC.mem,hl0];simp,hC.apart,by omega⟩,hJs⟩
  ·intro kv c kl yd_u yp_u w2 cnt2 hkey hlk hv hat hrg2 hlt hg2 hs2 hen
   obtain rfl:yd_u = .held c:=by unfold asIs at hv;simp at hv;exact hv.1.symm
   obtain ⟨x,hx,rfl,rfl⟩:=only_of hg hD hkey hat
   have hJ2:J ss w2:=hJ ss wr w2 (some W.heap.size) hJs hg2 (fun r e=>by cases e;exact ⟨Nat.le_refl _,hrg.iter_walk⟩)
   have hJ3:J ss (w2.alloc (.cells #[.int .i64 x.k,.int .i64 x.v,.int .i64 x.d] 65)):=hJ ss w2 _ none hJ2 (World.grownBy_alloc w2 _ none) (fun r e=>by cases e)
   have hC2:=hC.step hg hx hlk
   obtain ⟨fn,tmps,assign,bdy,hy,hR⟩:=hY ss x _ hJ3 (by omega)
   have hrg5:=hrg2.of_walks (KeepsWalks.alloc w2 (.cells #[.int .i64 x.k,.int .i64 x.v,.int .i64 x.d] 65))
   unfold itV at hen
   unfold ApT.enc at hy
   clear hs2 hg2 hJ2 hJ3 hJs hv hat hx
   gi_wp2
   refine hR.mono ?_
   rintro e W3 ⟨rfl,hJ4,hk3⟩
   gi_wp2
   have hrg3:=hrg5.of_walks hk3
   go_roundw
   case rel=>exact ⟨_,cnt2,ss++[x],hrg3,by simp;omega,hC2,hJ4⟩
   case measure=>rw [hrg3.left_eq,hrg.left_eq];exact hlt
theorem keyG_key (l:List It) (k:Int) (y:It) (h:keyG l k=some y):y.k=k:=by
 unfold keyG at h
 have:=List.find?_some h
 simpa using this
theorem sorted_ext:∀ (c l:List It),(c.Pairwise fun a b=>a.k<b.k)→(l.Pairwise fun a b=>a.k<b.k)→(∀ x,x∈c↔x∈l)→c=l
 | [],[],_,_,_=>rfl
 | [],y :: r,_,_,h=>by have:=(h y).2 (by simp);simp at this
 | x :: c,[],_,_,h=>by have:=(h x).1 (by simp);simp at this
 | x :: c,y :: r,h1,h2,h=>by
  rw [List.pairwise_cons] at h1 h2
  have hx:=(h x).1 (by simp)
  have hy:=(h y).2 (by simp)
  rw [List.mem_cons] at hx hy
  have e:x=y:=by
   rcases hx with e | hx
   ·exact e
   ·rcases hy with e | hy
    ·exact e.symm
    ·have a1:=h2.1 x hx
     have a2:=h1.1 y hy
     omega
  subst e
  congr 1
  refine sorted_ext c r h1.2 h2.2 fun z=>?_
  have hz:=h z
  rw [List.mem_cons,List.mem_cons] at hz
  constructor
  ·intro a
   rcases hz.1 (.inr a) with e | a2
   ·have:=h1.1 z a;rw [e] at this;omega
   ·exact a2
  ·intro a
   rcases hz.2 (.inr a) with e | a2
   ·have:=h2.1 z a;rw [e] at this;omega
   ·exact a2
theorem sorted_of {l c:List It} (hl:l.Pairwise fun a b=>a.k<b.k) {ss:List It} (hm:∀ x,x∈ss↔keyG l x.k=some x) (ha:ss.Pairwise fun a b=>a.k≠b.k) (hp:c.Perm ss) (hc:c.Pairwise fun a b=>a.k≤b.k):c=l:=by
 have hlm:∀ x,keyG l x.k=some x↔x∈l:=by
  intro x
  constructor
  ·intro h;exact List.mem_of_find?_eq_some h
  ·intro h
   rcases item_key l x.k with ⟨-,h2⟩ | ⟨i,y,-,h3,h4,h5⟩
   ·unfold keyG at h2
    rw [List.find?_eq_none] at h2
    have:=h2 x h
    simp at this
   ·rw [h4]
    have hy:y∈l:=List.mem_of_getElem? h3
    congr 1
    refine Classical.byContradiction fun hne=>?_
    rcases List.mem_iff_getElem.1 hy with ⟨i1,h1,rfl⟩
    rcases List.mem_iff_getElem.1 h with ⟨i2,h2,rfl⟩
    have hll:=List.pairwise_iff_getElem.1 hl
    by_cases e:i1<i2
    ·have:=hll i1 i2 h1 h2 e;omega
    ·by_cases e2:i2<i1
     ·have:=hll i2 i1 h2 h1 e2;omega
     ·obtain rfl:i1=i2:=by omega
      exact hne rfl
 have hca:c.Pairwise fun a b=>a.k≠b.k:=hp.symm.pairwise ha (fun {a b} h=>h.symm)
 have hcs:c.Pairwise fun a b=>a.k<b.k:=by
  rw [List.pairwise_iff_getElem] at hc hca ⊢
  intro i j hi hj hij
  have h1:=hc i j hi hj hij
  have h2:=hca i j hi hj hij
  omega
 have hmem:∀ x,x∈c↔x∈l:=fun x=>by rw [hp.mem_iff,hm,hlm]
 exact sorted_ext c l hcs hl hmem
set_option maxHeartbeats 1600000 in
theorem ditems_any (x:Lok) (hs:x.l.Pairwise fun a b=>a.k<b.k) (b m n:Nat) (hn:n≤1000) (w:World) (h:DkIs w b m n x) :
  Calls Tryz.prog 60 #[.pointer (some ⟨b,0,none⟩)] w fun e w'=>∃ u,e = .returned u∧w'.ownsRow w.heap.size 65 3 u x.l.length (x.l.flatMap fT)∧Fr [] w w':=by
 obtain ⟨cell,-,h2,h3⟩:=h
 obtain ⟨-,-,-,-,-,-,-,-,-,-,-,c11⟩:=dc_cells h2
 have F0:=(Fr.refl [] w).alloc (.cells #[.map (some m)] 129)
 have hm:=(cell_of_box_a (Go.heap_alloc_new w (.cells #[.map (some m)] 129))).1
 have hf:=feedsI 3 (by omega) w.heap.size m n (keyG x.l) (keyG_key x.l) _ hm (h3.up F0)
 have H:=dsfunc_any 126 #[.pointer (some ⟨w.heap.size,0,none⟩)] (enters_of Tryz.func126 (by kernel_rfl) rfl) (fun ss=>(∀ y,y∈ss↔keyG x.l y.k=some y)∧(ss.Pairwise fun a b=>a.k≠b.k)∧ss.length≤n) n hn _ hf (fun ss e=>qh e.2.2 hn)
 clear hf hm h2 h3
 go_enter Tryz.func60,Tryz.ntmps60
 go_wp2_with fail
 refine (valuesI_any m w).mono ?_
 rintro e _ ⟨rfl,rfl⟩
 go_wp2_with fail
 refine H.mono ?_
 rintro e w2 ⟨u,ss,c,rfl,⟨h4,h5,-⟩,hp,hc,hrow,F⟩
 obtain rfl:=sorted_of hs h4 h5 hp hc
 clear H
 have hrow2:w2.ownsRow w.heap.size 65 3 u x.l.length (x.l.flatMap fT):=by
  refine ⟨hrow.1,hrow.2.imp id ?_⟩
  rintro ⟨g,cap,cur,e1,e2,e3⟩
  exact ⟨g,cap,cur,e1,by simp at e2;omega,e3⟩
 clear hrow
 go_wp2_with fail
 go_ret
 exact ⟨u,rfl,hrow2,F0.trans F⟩
end Go.Proofs.YtaccfepnhmgagaaGreatDoor.Dk_u
namespace Go.Proofs.YtaccfepnhmgagaaGreatDoor.Dk_u
open Go.RowKit Go.Maps Go.Proofs.YtaccfepnhmgagaaGreatDoor.Ar Go.Proofs.YtaccfepnhmgagaaGreatDoor.Mx Go.Proofs.YtaccfepnhmgagaaGreatDoor.Vw
set_option linter.unusedVariables false
set_option linter.unusedSimpArgs false
set_option maxRecDepth 100000
theorem itGuard11:Tryz.prog.eqGuardType Tryz.prog.depth 65=false:=by kernel_rfl
theorem it_eql11 (k i o k' i' o':Int) (W:World):(binOp .eql 65 (.agg #[.int .i64 k,.int .i64 i,.int .i64 o]) (.agg #[.int .i64 k',.int .i64 i',.int .i64 o'])).run Tryz.prog W = .ok (.bool (k == k' && i == i' && o == o')) W:=by
 have u3:=Tryz.underlying3
 have a3:(isAgg 3).run Tryz.prog W = .ok false W:=by kernel_rfl
 have hS:Tryz.prog.underlying 65=some (.struct (Tryz.prog.fieldsOf 65)):=by kernel_rfl
 have hp:Tryz.prog.stoodInHeld 65=false:=by kernel_rfl
 rw [run_eql_struct,show (10000:Nat)=9999+1 from rfl,run_equalIn_agg W 9999 65 _ _ hS hp]
 simp only [Program.fieldsOf,Tryz.underlying65]
 go_simp
 cases h1:k == k' <;> cases h2:i == i' <;> cases h3:o == o' <;> simp_all
def s0:St:=Pl.begun 1 3 100
def s1:St:=(((s0.yl 16 2).yl 25 1).yl 26 9).yl 27 5
def c1:Cf:=⟨1,3,100,1000⟩
theorem c1ok:c1.Ok:=⟨by decide,by decide,by decide,by decide,by decide,by decide,by decide,by decide,by decide⟩
def x1:Lok:=Lok.new c1 15 0 63 100
def stepsL:Nat→Lok→St→Lok×St
 | 0,x,s=>(x,s)
 | n+1,x,s=>let r:=stepsL n x s;r.1.step r.2
theorem end1:(stepsL 8 x1 s1).1.line=0:=by decide +kernel
theorem run1:∀ k,k<8→(stepsL k x1 s1).1.line≠0:=by decide +kernel
theorem its1:(stepsL 8 x1 s1).1.l=[⟨9,0,5⟩]:=by decide +kernel
theorem giv1:qw (stepsL 8 x1 s1).2.l 25=3:=by decide +kernel
theorem tabK {S:List Nat} {w w':World} (t:Word.Tab w) (f:Fr S w w') (h:1∉S):Word.Tab w':=by
 obtain ⟨t0,t1,t2,t3,t4,t5,t6,t7,t8,t9,t10,t11⟩:=t
 exact ⟨f.cell t0 h,f.cell t1 h,f.cell t2 h,f.cell t3 h,f.cell t4 h,f.cell t5 h,f.cell t6 h,f.cell t7 h,f.cell t8 h,f.cell t9 h,f.cell t10 h,f.cell t11 h⟩
theorem tabLt {w:World} (t:Word.Tab w):1<w.heap.size:=World.block_lt_of_cell? w _ t.1
theorem steps_ok {x:Lok} {s:St} (h:Xp x):∀ n,Xp (stepsL n x s).1
 | 0=>h
 | n+1=>(steps_ok h n).step _
def wordsIn (l:List Int):Bool:=l.all fun v=>decide (v≤9223372036854775807)
theorem peek_in {l:List Int} (h:wordsIn l=true) (p:Int):qw l p≤9223372036854775807:=by
 unfold wordsIn at h
 rw [List.all_eq_true] at h
 unfold qw nth
 split
 ·rw [List.getD_eq_getElem?_getD]
  cases e:l[p.toNat]? with
  | none=>simp
  | some v=>have:=h v (List.mem_of_getElem? e);simpa using this
 ·omega
theorem words1:∀ k,k<9→wordsIn (stepsL k x1 s1).2.l=true:=by decide +kernel
theorem steps_ks {x:Lok} {s:St} (h:LkS x):∀ n,(∀ k,k<n→wordsIn (stepsL k x s).2.l=true)→LkS (stepsL n x s).1
 | 0,_=>h
 | n+1,hw=>(steps_ks h n (fun k hk=>hw k (by omega))).step _ (peek_in (hw n (by omega)))
theorem steps_line {x:Lok} {s:St} (h:0≤x.line∧x.line≤7):∀ n,0≤(stepsL n x s).1.line∧(stepsL n x s).1.line≤7
 | 0=>h
 | n+1=>by
  have hn:=steps_line (s:=s) h n
  show 0≤((stepsL n x s).1.step (stepsL n x s).2).1.line∧((stepsL n x s).1.step (stepsL n x s).2).1.line≤7
  unfold Lok.step
  split
  ·exact next_line _ _
  ·exact hn
def LkR (W w:World) (b m p q:Nat) (x:Lok) (s:St) (v:Value) (wr:World):Prop:=∃ k n,v = .int .i64 (k:Nat)∧n≤k∧k<8∧DkIs wr b m n (stepsL k x s).1∧Ar wr p q (stepsL k x s).2∧Fr [b,m,p,q] W wr
theorem dnew1 (w:World):Calls Tryz.prog 58 #[.agg #[.int .i64 1,.int .i64 3,.int .i64 100,.int .i64 1000],.int .i64 15,.int .i64 0,.int .i64 63,.int .i64 100] w fun e w'=>∃ b m,e = .returned (.pointer (some ⟨b,0,none⟩))∧w.heap.size≤b∧w.heap.size≤m∧b≠m∧DkIs w' b m 0 x1∧Fr [] w w':=dnew_any c1 15 0 63 100 w
set_option maxHeartbeats 3200000 in
theorem known_true (w:World) (t:Word.Tab w):Calls Tryz.prog 27 #[] w fun e w'=>e = .returned (.bool true)∧Fr [] w w':=by
 have isE:=Er.isE
 go_enter Tryz.func27,Tryz.ntmps27
 go_wp2_with fail
 refine (Pl.conf_any 1 3 100 _).mono ?_;rintro e w1 ⟨rfl,F1⟩
 have G:=F1.alloc (.cells #[.int .i64 1,.int .i64 3,.int .i64 100,.int .i64 1000] 23)
 have oc:=Ob.new w1 23 #[.int .i64 1,.int .i64 3,.int .i64 100,.int .i64 1000]
 obtain ⟨c0,c1,c2,c3⟩:=Pl.yn oc
 have hcw:=oc.lt
 have hw1:=F1.size
 clear F1
 go_wp2_with fail
 refine (Pl.make_yes 1 3 100 1000 (by decide) _).mono ?_;rintro e w2 ⟨p,q,rfl,hp,hq,A,F2⟩
 rw [Yp] at hp hq
 replace oc:=oc.up F2
 have hcw2:=oc.lt
 have hA2:=A.lt
 replace G:=G.trans F2
 have hG:=G.size
 have A:Ar w2 p q s0:=A
 clear F2 c0 c1 c2 c3
 generalize hbc:w1.heap.size=bc at *
 have nqc:bc≠q:=by omega
 have npc:bc≠p:=by omega
 have hwq:w.heap.size≤q:=by omega
 have hwp:w.heap.size≤p:=by omega
 obtain ⟨c0,c1,c2,c3⟩:=Pl.yn oc
 go_wp2_with fail
 refine (Pl.Xb 1 3 100 1000 (by decide) (by decide) _).mono ?_;rintro e w3 ⟨rfl,F3⟩
 replace A:=A.kept F3 (by simp) (by simp)
 replace oc:=oc.up F3
 replace G:=G.trans F3
 clear F3 c0 c1 c2 c3 hG hA2 hcw2 hcw
 rw [show (3+1+4+7:Int)=15 by decide]
 go_wp2_with fail
 refine (jw _ p q _ _ _ A).mono ?_;rintro e w4 ⟨rfl,A2,F2⟩
 clear A
 have A:Ar w4 p q (s0.yl 16 2):=A2
 clear A2
 replace oc:=oc.kept F2 (by simpa using nqc)
 replace G:=G.own F2 (by simpa using hwq)
 clear F2
 go_wp2_with fail
 refine (Pl.Qt 15 1 (by decide) (by decide) (by decide) (by decide) _).mono ?_;rintro e _ ⟨rfl,rfl⟩
 go_wp2_with fail
 refine (jw _ p q _ _ _ A).mono ?_;rintro e w5 ⟨rfl,A2,F2⟩
 clear A
 have A:Ar w5 p q ((s0.yl 16 2).yl 25 1):=A2
 clear A2
 replace oc:=oc.kept F2 (by simpa using nqc)
 replace G:=G.own F2 (by simpa using hwq)
 clear F2
 go_wp2_with fail
 refine (Pl.Qt 15 1 (by decide) (by decide) (by decide) (by decide) _).mono ?_;rintro e _ ⟨rfl,rfl⟩
 go_wp2_with fail
 refine (jw _ p q _ _ _ A).mono ?_;rintro e w6 ⟨rfl,A2,F2⟩
 clear A
 have A:Ar w6 p q (((s0.yl 16 2).yl 25 1).yl 26 9):=A2
 clear A2
 replace oc:=oc.kept F2 (by simpa using nqc)
 replace G:=G.own F2 (by simpa using hwq)
 clear F2
 go_wp2_with fail
 refine (Pl.Qt 15 1 (by decide) (by decide) (by decide) (by decide) _).mono ?_;rintro e _ ⟨rfl,rfl⟩
 go_wp2_with fail
 refine (jw _ p q _ _ _ A).mono ?_;rintro e w7 ⟨rfl,A2,F2⟩
 clear A
 have A:Ar w7 p q s1:=A2
 clear A2
 replace oc:=oc.kept F2 (by simpa using nqc)
 replace G:=G.own F2 (by simpa using hwq)
 clear F2
 obtain ⟨c0,c1,c2,c3⟩:=Pl.yn oc
 go_wp2_with fail
 refine (dnew1 _).mono ?_;rintro e w8 ⟨b,m,rfl,hb,hm,nbm,D,F8⟩
 have hG:=G.size
 have hA:=A.lt
 have hC:=oc.lt
 replace oc:=oc.up F8
 replace A:=A.kept F8 (by simp) (by simp)
 replace G:=G.trans F8
 clear F8 c0 c1 c2 c3
 go_wp2_with fail
 have HN:=q9 (show b≠p∧b≠q∧b≠m∧m≠p∧m≠q from ⟨by omega,by omega,nbm,by omega,by omega⟩)
 have t8:=tabK t G (by simp)
 have hbt:=tabLt t
 have HT:=q9 (qc t8 (show 1≠b∧1≠m∧1≠p∧1≠q by omega))
 have HB:=q9 (show w.heap.size≤b∧w.heap.size≤m∧w.heap.size≤p∧w.heap.size≤q by omega)
 have HO:=q9 oc
 clear t t8 hbt hb hm nbm hG hA hC oc hp hq hw1 hwq hwp npc nqc
 go_loopw [6] (LkR w8 w b m p q x1 s1) (fun v _=>20 - (intOf v).toNat)
 case atStart=>exact ⟨0,0,rfl,Nat.le_refl _,by omega,D,A,Fr.refl _ _⟩
 ·skip
  obtain ⟨k,n,rfl,hnk,hk8,D2,A2,F2⟩:=hrel
  have hst:=dstep_any (stepsL k x1 s1).1 (steps_ok (s:=s1) (Xp.new c1ok 15 0 63 100) k) (steps_ks (LkS.new c1 15 0 63 100 ⟨by omega,by omega⟩) k (fun j hj=>words1 j (by omega))) (steps_line (by decide) k) b m n p q (stepsL k x1 s1).2 (peek_in (words1 k (by omega))) _ (tabK HT.out.1 F2 (by simp;exact HT.out.2)) HT.out.2.2.2 (by omega) HN.out D2 A2
  have HS:=q9 hst
  have g1:decide ((k:Int)<20)=true:=by simp;omega
  clear hst D2 A2
  go_wp2_with fail
  refine HS.out.mono ?_;rintro e w9 ⟨rfl,⟨n2,hn2,D3⟩,A3,F3⟩
  have F4:=F2.trans F3
  by_cases hk:k<7
  ·have g2:decide ((stepsL (k+1) x1 s1).1.line=0)=false:=by simp;exact run1 (k+1) (by omega)
   have g3:decide (((stepsL k x1 s1).1.step (stepsL k x1 s1).2).1.line=0)=false:=g2
   clear g2
   go_wp2_with fail
   go_roundw
   case rel=>exact ⟨k+1,n2,by simp,by omega,by omega,D3,A3,F4⟩
   case measure=>simp [intOf];omega
  ·obtain rfl:k=7:=by omega
   have g3:decide (((stepsL 7 x1 s1).1.step (stepsL 7 x1 s1).2).1.line=0)=true:=by simp;exact end1
   have D4:DkIs w9 b m n2 (stepsL 8 x1 s1).1:=D3
   have A4:Ar w9 p q (stepsL 8 x1 s1).2:=A3
   have HI:=q9 (ditems_any (stepsL 8 x1 s1).1 (by rw [its1];simp) b m n2 (by omega) w9 D4)
   have HAA:=q9 A4
   rw [its1] at HI
   clear D3 A3 D4 A4 HS
   go_wp2_with fail
   refine HI.out.mono ?_;rintro e w10 ⟨u,rfl,hu,F10⟩
   obtain ⟨a2,c2,rfl,hc2,hm2,hh⟩:=Sq.own (f:=fT) hu
   have A5:=HAA.out.kept F10 (by simp) (by simp)
   have F5:=F4.trans (F10.mono (by simp))
   obtain h0 | ⟨g,off,rfl,hg,hcell⟩:=hh
   ·simp at h0
   have x0:=hcell 0 (.int .i64 9) rfl
   have x1':=hcell 1 (.int .i64 0) rfl
   have x2:=hcell 2 (.int .i64 5) rfl
   rw [Nat.add_zero] at x0
   have ie:=it_eql11 9 0 5 9 0 5
   have HG:=q9 (qc A5 F5)
   clear hu HI HAA hcell A5 F4 F10 F2 F3
   simp only [List.length_cons,List.length_nil,Nat.zero_add] at hc2 ⊢
   go_wp2_with fail
   refine (Pl.Qt 15 1 (by decide) (by decide) (by decide) (by decide) _).mono ?_;rintro e _ ⟨rfl,rfl⟩
   go_wp2_with fail
   refine (vk _ p q _ _ HG.out.1).mono ?_;rintro e w11 ⟨rfl,rfl⟩
   rw [giv1]
   go_wp2_with fail
   go_ret
   exact ⟨rfl,G.own HG.out.2 (by simp;exact ⟨HB.out.1,HB.out.2.1,HB.out.2.2⟩)⟩
end Go.Proofs.YtaccfepnhmgagaaGreatDoor.Dk_u
namespace Go.Proofs.YtaccfepnhmgagaaGreatDoor.Lp_u
open Go.RowKit Go.Proofs.YtaccfepnhmgagaaGreatDoor.Ar Go.Proofs.YtaccfepnhmgagaaGreatDoor.Mx Go.Proofs.YtaccfepnhmgagaaGreatDoor.Dk_u
set_option linter.unusedVariables false
set_option linter.unusedSimpArgs false
theorem pk_def (l : List Int) (q : Int) : qw l q = if 0 ≤ q ∧ q < (l.length : Int) then l.getD q.toNat 0 else 0 := by
  unfold qw J8 nth
  simp only [Bool.and_eq_true, decide_eq_true_eq]
theorem pk_poke (l : List Int) (p v q : Int) : qw (yl l p v) q = if q = p ∧ 0 ≤ p ∧ p < (l.length : Int) then v else qw l q := by
  by_cases hp : 0 ≤ p ∧ p < (l.length : Int)
  · obtain ⟨k, rfl⟩ := Int.eq_ofNat_of_zero_le hp.1
    have hk : k < l.length := by omega
    have e : yl l (k : Int) v = l.set k v := by unfold yl J8; simp [hk]
    rw [e, pk_def, pk_def l, List.length_set]
    by_cases hq : 0 ≤ q ∧ q < (l.length : Int)
    · rw [qf hq, qf hq]
      by_cases h : q = (k : Int)
      · subst h
        rw [qf ⟨rfl, hp⟩, Int.toNat_natCast, List.getD_eq_getElem?_getD, List.getElem?_set_self hk]; rfl
      · rw [qd (fun e => h e.1), List.getD_eq_getElem?_getD, List.getElem?_set_ne (by omega), List.getD_eq_getElem?_getD]
    · rw [qd hq, qd hq, qd (fun e => hq (by rw [e.1]; exact e.2))]
  · have e : yl l p v = l := by unfold yl J8; rw [qd (by simpa using hp)]
    rw [e, qd (fun h => hp h.2)]
theorem pk_len (l : List Int) (p v : Int) : (yl l p v).length = l.length := by unfold yl; split <;> simp
/-- The place of a cell's state. -/
def stI (a : Int) (i : Nat) : Int := a + 7 + 3 * i
/-- Whose key lies in the range. -/
def inn (L : List Int) (a lo hi : Int) (i : Nat) : Prop := lo ≤ qw L (stI a i + 1) ∧ qw L (stI a i + 1) ≤ hi
instance (L : List Int) (a lo hi : Int) (i : Nat) : Decidable (inn L a lo hi i) := by unfold inn; infer_instance
/-- A cell's state behind a look. -/
def aft (L : List Int) (a ck lo hi : Int) (i : Nat) : Int := if qw L (stI a i) = 1 ∧ inn L a lo hi i then yc ck else qw L (stI a i)
/-- The words, as far as the cells ahead of m go. -/
def want (L : List Int) (a ck lo hi : Int) : Nat → Int → Int
  | 0, j => qw L j
  | k + 1, j => if j = stI a k then aft L a ck lo hi k else want L a ck lo hi k j
def skipI (most : Int) (acc : List It) (y : It) : Bool := decide (most < y.v) || (keyG acc y.k).any fun z => decide (y.v < z.v)
def addI (most : Int) (acc : List It) (y : It) : List It := if skipI most acc y = true then acc else q1d acc y
/-- What a cell with a version tells. -/
def itI (L : List Int) (a ck lo hi : Int) (i : Nat) : It := ⟨qw L (stI a i + 1), Vf (aft L a ck lo hi i), qw L (stI a i + 2)⟩
def its (L : List Int) (a ck lo hi most : Int) : Nat → List It
  | 0 => []
  | i + 1 => if inn L a lo hi i ∧ 3 ≤ aft L a ck lo hi i then addI most (its L a ck lo hi most i) (itI L a ck lo hi i) else its L a ck lo hi most i
section
variable {L : List Int} {a ck lo hi most : Int}
theorem want_ne {m : Nat} {j : Int} (h : ∀ k : Nat, k < m → j ≠ stI a k) : want L a ck lo hi m j = qw L j := by
  induction m with
  | zero => rfl
  | succ m ih =>
    unfold want
    rw [qd (h m (by omega))]
    exact ih (fun k hk => h k (by omega))
theorem want_st {m i : Nat} (h : m ≤ i) : want L a ck lo hi m (stI a i) = qw L (stI a i) := want_ne (fun k hk => by unfold stI; omega)
theorem want_key (m i : Nat) : want L a ck lo hi m (stI a i + 1) = qw L (stI a i + 1) := want_ne (fun k hk => by unfold stI; omega)
theorem want_dat (m i : Nat) : want L a ck lo hi m (stI a i + 2) = qw L (stI a i + 2) := want_ne (fun k hk => by unfold stI; omega)
theorem want_at {m i : Nat} (h : i < m) : want L a ck lo hi m (stI a i) = aft L a ck lo hi i := by
  induction m with
  | zero => omega
  | succ m ih =>
    unfold want
    by_cases e : i = m
    · subst e; rw [qf rfl]
    · rw [qd (by unfold stI; omega)]; exact ih (by omega)
theorem want_on {i : Nat} (h : ¬ (qw L (stI a i) = 1 ∧ inn L a lo hi i)) (j : Int) : want L a ck lo hi (i + 1) j = want L a ck lo hi i j := by
  conv => lhs; unfold want
  split
  · rename_i e; rw [e, want_st (Nat.le_refl _)]; unfold aft; rw [qd h]
  · rfl
theorem skips_eq (x : Lok) (d : Int) : x.skips = skipI x.most x.l ⟨x.k, Vf x.s, d⟩ := by
  unfold Lok.skips skipI
  rcases item_key x.l x.k with ⟨h1, h2⟩ | ⟨i, y, h1, h2, h3, -⟩
  · rw [h1, h2]; rfl
  · rw [h1, h3]
    simp only [List.getD_eq_getElem?_getD, h2, Option.getD_some, Option.any_some]
/-- A look at a line .. -/
structure Jc_u (L : List Int) (a cap n ck lo hi most : Int) (x : Lok) (s : St) : Prop where
  c : x.c.c = cap
  ch : x.chunk = a
  flo : x.lo = lo
  fhi : x.hi = hi
  fmo : x.most = most
  len : s.l.length = L.length
  at_ : (x.line = 1 ∧ (∀ j, qw s.l j = qw L j) ∧ x.l = []) ∨ (x.line = 0 ∧ (∀ j, qw s.l j = want L a ck lo hi n.toNat j) ∧ x.l = its L a ck lo hi most n.toNat) ∨
    ∃ i : Nat, x.i = i ∧ (i : Int) < n ∧ x.count = n ∧
      ((x.line = 2 ∧ (∀ j, qw s.l j = want L a ck lo hi i j) ∧ x.l = its L a ck lo hi most i) ∨
      (x.line = 3 ∧ x.s = qw L (stI a i) ∧ (x.s = 1 ∨ 3 ≤ x.s) ∧ (∀ j, qw s.l j = want L a ck lo hi i j) ∧ x.l = its L a ck lo hi most i) ∨
      (x.line = 4 ∧ x.k = qw L (stI a i + 1) ∧ qw L (stI a i) = 1 ∧ inn L a lo hi i ∧ (∀ j, qw s.l j = want L a ck lo hi i j) ∧ x.l = its L a ck lo hi most i) ∨
      (x.line = 5 ∧ x.k = qw L (stI a i + 1) ∧ x.g = ck ∧ qw L (stI a i) = 1 ∧ inn L a lo hi i ∧ (∀ j, qw s.l j = want L a ck lo hi i j) ∧ x.l = its L a ck lo hi most i) ∨
      (x.line = 6 ∧ x.k = qw L (stI a i + 1) ∧ qw L (stI a i) = 1 ∧ inn L a lo hi i ∧ (∀ j, qw s.l j = want L a ck lo hi (i + 1) j) ∧ x.l = its L a ck lo hi most i) ∨
      (x.line = 7 ∧ x.k = qw L (stI a i + 1) ∧ x.s = aft L a ck lo hi i ∧ 3 ≤ x.s ∧ inn L a lo hi i ∧ x.skips = false ∧ (∀ j, qw s.l j = want L a ck lo hi (i + 1) j) ∧ x.l = its L a ck lo hi most i))
/-- How many steps are left at most. -/
def remC (n : Int) (x : Lok) : Int := if x.line = 0 then 0 else if x.line = 1 then 6 * n + 1 else 6 * (n - x.i) + 2 - x.line
variable {cap n : Int}
theorem jc_on {x : Lok} {s : St} {i : Nat} (c : x.c.c = cap) (ch : x.chunk = a) (hl : x.lo = lo) (hh : x.hi = hi) (hm : x.most = most) (hs : s.l.length = L.length) (h1 : x.i = i) (h2 : (i : Int) < n) (h3 : x.count = n)
    (h : ∀ j, qw s.l j = want L a ck lo hi (i + 1) j) (hx : x.l = its L a ck lo hi most (i + 1)) :
    Jc_u L a cap n ck lo hi most x.on s ∧ remC n x.on ≤ 6 * (n - i) - 6 := by
  unfold Lok.on
  by_cases e : x.count ≤ x.i + 1
  · rw [qf e]
    have en : n.toNat = i + 1 := by omega
    refine ⟨⟨c, ch, hl, hh, hm, hs, .inr (.inl ⟨rfl, ?_, ?_⟩)⟩, ?_⟩
    · rw [en]; exact h
    · rw [en]; exact hx
    · unfold remC; rw [qf rfl]; omega
  · rw [qd e]
    refine ⟨⟨c, ch, hl, hh, hm, hs, .inr (.inr ⟨i + 1, ?_, by push_cast; omega, h3, .inl ⟨rfl, h, hx⟩⟩)⟩, ?_⟩
    · show x.i + 1 = _; rw [h1]; push_cast; rfl
    · unfold remC; simp only; rw [qd (by omega), qd (by omega)]; omega
theorem jc_seven {x : Lok} {s : St} {i : Nat} (c : x.c.c = cap) (ch : x.chunk = a) (hl : x.lo = lo) (hh : x.hi = hi) (hm : x.most = most) (hs : s.l.length = L.length) (h1 : x.i = i) (h2 : (i : Int) < n) (h3 : x.count = n)
    (hk : x.k = qw L (stI a i + 1)) (hv : x.s = aft L a ck lo hi i) (h3s : 3 ≤ x.s) (hin : inn L a lo hi i) (h : ∀ j, qw s.l j = want L a ck lo hi (i + 1) j) (hx : x.l = its L a ck lo hi most i) :
    Jc_u L a cap n ck lo hi most x.seven s ∧ remC n x.seven ≤ 6 * (n - i) - 5 := by
  unfold Lok.seven
  split
  · rename_i e
    have e2 : its L a ck lo hi most (i + 1) = its L a ck lo hi most i := by
      conv => lhs; unfold its
      rw [qf ⟨hin, by rw [← hv]; exact h3s⟩]
      unfold addI itI
      rw [skips_eq x (qw L (stI a i + 2)), hm, hx, hk, hv] at e
      rw [qf e]
    have := jc_on (x := { x with line := 7 }) c ch hl hh hm hs h1 h2 h3 h (by rw [e2]; exact hx)
    exact ⟨this.1, by have := this.2; omega⟩
  · rename_i e
    refine ⟨⟨c, ch, hl, hh, hm, hs, .inr (.inr ⟨i, h1, h2, h3, .inr (.inr (.inr (.inr (.inr ⟨rfl, hk, hv, h3s, hin, (by rw [Bool.not_eq_true] at e; exact e), h, hx⟩))))⟩)⟩, ?_⟩
    unfold remC; simp only; rw [qd (by omega), qd (by omega)]; omega
theorem ld_l (s : St) (i : Int) : (s.load i).l = s.l := rfl
theorem stI_at {i : Nat} (h0 : 0 ≤ a) (h1 : a ≤ 20000) (h : i ≤ 100) : Qp a i = stI a i := by unfold Qp stI; rw [w64 (by omega) (by omega)]
set_option maxHeartbeats 800000 in
theorem Jc_u.step (h0 : 0 ≤ a) (h1 : a + 7 + 3 * cap ≤ (L.length : Int)) (h2 : (L.length : Int) ≤ 20000) (hcap : 0 ≤ cap ∧ cap ≤ 16) (hn : n = max 0 (min (qw L (a + 1)) cap)) (hk : qw L 1 = ck) {x : Lok} {s : St} (h : Jc_u L a cap n ck lo hi most x s) (hl : x.line ≠ 0) :
    Jc_u L a cap n ck lo hi most (x.step s).1 (x.step s).2 ∧ remC n (x.step s).1 + 1 ≤ remC n x := by
  have hn0 : 0 ≤ n ∧ n ≤ cap := by omega
  obtain ⟨c, ch, f1, f2, f3, len, h3⟩ := h
  unfold Lok.step
  rcases h3 with ⟨l, w, e0⟩ | ⟨l, -, -⟩ | ⟨i, hi', hin, hct, h3⟩
  · rw [qf (by unfold Lok.live; rw [l]; rfl)]
    show Jc_u L a cap n ck lo hi most (x.next (x.told s)) (x.act s) ∧ remC n (x.next (x.told s)) + 1 ≤ _
    have e1 : x.told s = qw L (a + 1) := by unfold Lok.told; rw [qf l, w, ch, w64 (by omega) (by omega)]
    have e2 : x.act s = s.load (wrap64 (x.chunk + 1)) := by unfold Lok.act; rw [qf l]
    rw [e1, e2]
    unfold Lok.next
    rw [qf l, c, ← hn]
    unfold Lok.on
    simp only
    by_cases e : n ≤ -1 + 1
    · rw [qf e]
      have en : n.toNat = 0 := by omega
      refine ⟨⟨c, ch, f1, f2, f3, len, .inr (.inl ⟨rfl, ?_, ?_⟩)⟩, ?_⟩
      · rw [en]; exact w
      · rw [en]; exact e0
      · unfold remC; rw [qf rfl, qd hl, qf l]; omega
    · rw [qd e]
      refine ⟨⟨c, ch, f1, f2, f3, len, .inr (.inr ⟨0, rfl, by push_cast; omega, rfl, .inl ⟨rfl, w, e0⟩⟩)⟩, ?_⟩
      unfold remC; simp only; rw [qd (by omega), qd (by omega), qd hl, qf l]; omega
  · exact absurd l hl
  · clear hn
    have hsa : x.sa = stI a i := by unfold Lok.sa; rw [ch, hi']; exact stI_at h0 (by omega) (by omega)
    have hb : 0 ≤ stI a i ∧ stI a i + 2 < (L.length : Int) ∧ 7 ≤ stI a i := by unfold stI; omega
    have hr : remC n x = 6 * (n - i) + 2 - x.line := by
      unfold remC
      rw [qd hl, qd (by omega), hi']
    rw [hr]
    rcases h3 with ⟨l, w, e0⟩ | ⟨l, hs, hs3, w, e0⟩ | ⟨l, hke, hp, hin2, w, e0⟩ | ⟨l, hke, hg, hp, hin2, w, e0⟩ | ⟨l, hke, hp, hin2, w, e0⟩ | ⟨l, hke, hs, hs3, hin2, hsk, w, e0⟩
    · rw [qf (by unfold Lok.live; rw [l]; rfl)]
      show Jc_u L a cap n ck lo hi most (x.next (x.told s)) (x.act s) ∧ remC n (x.next (x.told s)) + 1 ≤ _
      have e1 : x.told s = qw L (stI a i) := by unfold Lok.told; rw [qd (by omega), qf l, w, hsa, want_st (Nat.le_refl _)]
      have e2 : x.act s = s.load x.sa := by unfold Lok.act; rw [qd (by omega), qf l]
      rw [e1, e2]
      unfold Lok.next
      rw [qd (by omega), qf l]
      by_cases hv : qw L (stI a i) ≤ 0 ∨ qw L (stI a i) = 2
      · rw [qf hv]
        have en : ¬ (qw L (stI a i) = 1 ∧ inn L a lo hi i) := by omega
        have := jc_on (L := L) (a := a) (cap := cap) (n := n) (ck := ck) (lo := lo) (hi := hi) (most := most) (x := { x with s := qw L (stI a i), line := 3 }) (s := s.load x.sa) (i := i) c ch f1 f2 f3 len hi' hin hct (fun j => by rw [ld_l, w, want_on en])
          (by conv => rhs; unfold its
              rw [qd (by unfold aft; rw [qd en]; omega)]; exact e0)
        exact ⟨this.1, by have := this.2; omega⟩
      · rw [qd hv]
        refine ⟨⟨c, ch, f1, f2, f3, len, .inr (.inr ⟨i, hi', hin, hct, .inr (.inl ⟨rfl, rfl, by simp only; omega, w, e0⟩)⟩)⟩, ?_⟩
        unfold remC; simp only; rw [qd (by omega), qd (by omega), hi']; omega
    · rw [qf (by unfold Lok.live; rw [l]; rfl)]
      show Jc_u L a cap n ck lo hi most (x.next (x.told s)) (x.act s) ∧ remC n (x.next (x.told s)) + 1 ≤ _
      have e1 : x.told s = qw L (stI a i + 1) := by
        unfold Lok.told; rw [qd (by omega), qd (by omega), qf l, w, hsa, w64 (by omega) (by omega), want_key]
      have e2 : x.act s = s.load (wrap64 (x.sa + 1)) := by unfold Lok.act; rw [qd (by omega), qd (by omega), qf l]
      rw [e1, e2]
      unfold Lok.next
      rw [qd (by omega), qd (by omega), qf l]
      by_cases hv : qw L (stI a i + 1) < x.lo ∨ x.hi < qw L (stI a i + 1)
      · rw [qf hv]
        have en : ¬ inn L a lo hi i := by unfold inn; omega
        have := jc_on (L := L) (a := a) (cap := cap) (n := n) (ck := ck) (lo := lo) (hi := hi) (most := most) (x := { x with k := qw L (stI a i + 1) }) (s := s.load (wrap64 (x.sa + 1))) (i := i) c ch f1 f2 f3 len hi' hin hct (fun j => by rw [ld_l, w, want_on (fun h => en h.2)])
          (by conv => rhs; unfold its
              rw [qd (fun h => en h.1)]; exact e0)
        exact ⟨this.1, by have := this.2; omega⟩
      · rw [qd hv]
        have en : inn L a lo hi i := by unfold inn; omega
        by_cases h1s : x.s = 1
        · rw [qf h1s]
          refine ⟨⟨c, ch, f1, f2, f3, len, .inr (.inr ⟨i, hi', hin, hct, .inr (.inr (.inl ⟨rfl, rfl, by rw [← hs]; exact h1s, en, w, e0⟩))⟩)⟩, ?_⟩
          unfold remC; simp only; rw [qd (by omega), qd (by omega), hi']; omega
        · rw [qd h1s]
          have en1 : ¬ (qw L (stI a i) = 1 ∧ inn L a lo hi i) := fun h => h1s (by rw [hs]; exact h.1)
          have := jc_seven (L := L) (a := a) (cap := cap) (n := n) (ck := ck) (lo := lo) (hi := hi) (most := most) (x := { x with k := qw L (stI a i + 1) }) (s := s.load (wrap64 (x.sa + 1))) (i := i) c ch f1 f2 f3 len hi' hin hct rfl (by unfold aft; rw [qd en1]; exact hs) (by simp only; omega) en (fun j => by rw [ld_l, w, want_on en1]) e0
          exact ⟨this.1, by have := this.2; omega⟩
    · rw [qf (by unfold Lok.live; rw [l]; rfl)]
      show Jc_u L a cap n ck lo hi most (x.next (x.told s)) (x.act s) ∧ remC n (x.next (x.told s)) + 1 ≤ _
      have e1 : x.told s = ck := by
        unfold Lok.told; rw [qd (by omega), qd (by omega), qd (by omega), qf l, w, ← hk]
        exact want_ne (fun k hk => by unfold stI; omega)
      have e2 : x.act s = s.load 1 := by unfold Lok.act; rw [qd (by omega), qd (by omega), qd (by omega), qf l]
      rw [e1, e2]
      unfold Lok.next
      rw [qd (by omega), qd (by omega), qd (by omega), qf l]
      refine ⟨⟨c, ch, f1, f2, f3, len, .inr (.inr ⟨i, hi', hin, hct, .inr (.inr (.inr (.inl ⟨rfl, hke, rfl, hp, hin2, w, e0⟩)))⟩)⟩, ?_⟩
      unfold remC; simp only; rw [qd (by omega), qd (by omega), hi']; omega
    · rw [qf (by unfold Lok.live; rw [l]; rfl)]
      show Jc_u L a cap n ck lo hi most (x.next (x.told s)) (x.act s) ∧ remC n (x.next (x.told s)) + 1 ≤ _
      have e2 : x.act s = s.swap x.sa 1 (yc x.g) := by unfold Lok.act; rw [qd (by omega), qd (by omega), qd (by omega), qd (by omega), qf l]
      have hp2 : qw s.l (stI a i) = 1 := by rw [w, want_st (Nat.le_refl _)]; exact hp
      have e3 : s.swap x.sa 1 (yc x.g) = (s.yl (stI a i) (yc ck)).note 3 (stI a i) (qw s.l (stI a i)) true := by
        rw [hsa, hg, St.swap, qf]
        unfold St.can J8
        rw [hp2, len]
        simp
        omega
      rw [e2, e3]
      unfold Lok.next
      rw [qd (by omega), qd (by omega), qd (by omega), qd (by omega), qf l]
      refine ⟨⟨c, ch, f1, f2, f3, by show (yl _ _ _).length = _; rw [pk_len]; exact len, .inr (.inr ⟨i, hi', hin, hct, .inr (.inr (.inr (.inr (.inl ⟨rfl, hke, hp, hin2, fun j => ?_, e0⟩))))⟩)⟩, ?_⟩
      · show qw (yl s.l (stI a i) (yc ck)) j = _
        rw [pk_poke, w, len]
        conv => rhs; unfold want
        by_cases e : j = stI a i
        · rw [qf ⟨e, by omega, by omega⟩, qf e]; unfold aft; rw [qf ⟨hp, hin2⟩]
        · rw [qd (fun h => e h.1), qd e]
      · unfold remC; simp only; rw [qd (by omega), qd (by omega), hi']; omega
    · rw [qf (by unfold Lok.live; rw [l]; rfl)]
      show Jc_u L a cap n ck lo hi most (x.next (x.told s)) (x.act s) ∧ remC n (x.next (x.told s)) + 1 ≤ _
      have ea : aft L a ck lo hi i = yc ck := by unfold aft; rw [qf ⟨hp, hin2⟩]
      have e1 : x.told s = aft L a ck lo hi i := by
        unfold Lok.told; rw [qd (by omega), qd (by omega), qd (by omega), qd (by omega), qf l, w, hsa, want_at (by omega)]
      have e2 : x.act s = s.load x.sa := by unfold Lok.act; rw [qd (by omega), qd (by omega), qd (by omega), qd (by omega), qd (by omega), qf l]
      have h3s : 3 ≤ aft L a ck lo hi i := by rw [ea]; unfold yc hd; omega
      rw [e1, e2]
      unfold Lok.next
      rw [qd (by omega), qd (by omega), qd (by omega), qd (by omega), qd (by omega), qf l, qd (by omega)]
      have := jc_seven (L := L) (a := a) (cap := cap) (n := n) (ck := ck) (lo := lo) (hi := hi) (most := most) (x := { x with s := aft L a ck lo hi i }) (s := s.load x.sa) (i := i) c ch f1 f2 f3 len hi' hin hct hke rfl h3s hin2 (fun j => by rw [ld_l, w]) e0
      exact ⟨this.1, by have := this.2; omega⟩
    · rw [qf (by unfold Lok.live; rw [l]; rfl)]
      show Jc_u L a cap n ck lo hi most (x.next (x.told s)) (x.act s) ∧ remC n (x.next (x.told s)) + 1 ≤ _
      have e1 : x.told s = qw L (stI a i + 2) := by
        unfold Lok.told; rw [qd (by omega), qd (by omega), qd (by omega), qd (by omega), qd (by omega), w, hsa, w64 (by omega) (by omega), want_dat]
      have e2 : x.act s = s.load (wrap64 (x.sa + 2)) := by unfold Lok.act; rw [qd (by omega), qd (by omega), qd (by omega), qd (by omega), qd (by omega), qd (by omega)]
      rw [e1, e2]
      unfold Lok.next
      rw [qd (by omega), qd (by omega), qd (by omega), qd (by omega), qd (by omega), qd (by omega)]
      have := jc_on (L := L) (a := a) (cap := cap) (n := n) (ck := ck) (lo := lo) (hi := hi) (most := most) (x := { x with l := q1d x.l ⟨x.k, Vf x.s, qw L (stI a i + 2)⟩ }) (s := s.load (wrap64 (x.sa + 2))) (i := i) c ch f1 f2 f3 len hi' hin hct (fun j => by rw [ld_l, w])
        (by conv => rhs; unfold its
            rw [qf ⟨hin2, by rw [← hs]; exact hs3⟩]
            unfold addI itI
            rw [skips_eq x (qw L (stI a i + 2)), f3, e0, hke, hs] at hsk
            rw [qd (by rw [hsk]; simp)]
            simp only
            rw [e0, hke, hs])
      exact ⟨this.1, by have := this.2; omega⟩
theorem Jc_u.new (c : Cf) {s : St} : Jc_u s.l a c.c n ck lo hi most (Lok.new c a lo hi most) s :=
  ⟨rfl, rfl, rfl, rfl, rfl, rfl, .inl ⟨rfl, fun j => rfl, rfl⟩⟩
theorem Jc_u.rem {x : Lok} {s : St} (h : Jc_u L a cap n ck lo hi most x s) (hn : 0 ≤ n) (hl : x.line ≠ 0) : 1 ≤ remC n x := by
  obtain ⟨-, -, -, -, -, -, h⟩ := h
  unfold remC
  rw [qd hl]
  rcases h with ⟨l, -⟩ | ⟨l, -⟩ | ⟨i, e, hi, -, h⟩
  · rw [qf l]; omega
  · exact absurd l hl
  · rw [qd (by rcases h with ⟨l, -⟩ | ⟨l, -⟩ | ⟨l, -⟩ | ⟨l, -⟩ | ⟨l, -⟩ | ⟨l, -⟩ <;> omega), e]
    rcases h with ⟨l, -⟩ | ⟨l, -⟩ | ⟨l, -⟩ | ⟨l, -⟩ | ⟨l, -⟩ | ⟨l, -⟩ <;> omega
theorem Jc_u.done {x : Lok} {s : St} (h : Jc_u L a cap n ck lo hi most x s) (hl : x.line = 0) : (∀ j, qw s.l j = want L a ck lo hi n.toNat j) ∧ x.l = its L a ck lo hi most n.toNat := by
  obtain ⟨-, -, -, -, -, -, h⟩ := h
  rcases h with ⟨l, -⟩ | ⟨l, w⟩ | ⟨i, e, hi, -, h⟩
  · omega
  · exact w
  · rcases h with ⟨l, -⟩ | ⟨l, -⟩ | ⟨l, -⟩ | ⟨l, -⟩ | ⟨l, -⟩ | ⟨l, -⟩ <;> omega
end
/-- A list of items by key. -/
def rise (l : List It) : Prop := l.Pairwise fun a b => a.k < b.k
theorem mem_insK {z x : It} : ∀ {l : List It}, z ∈ q0n l x → z = x ∨ z ∈ l
  | [], h => by unfold q0n at h; simpa using h
  | y :: r, h => by
    unfold q0n at h
    split at h
    · rcases List.mem_cons.1 h with e | h
      · exact .inr (by rw [e]; simp)
      · rcases mem_insK h with e | h
        · exact .inl e
        · exact .inr (by simp [h])
    · rcases List.mem_cons.1 h with e | h
      · exact .inl e
      · exact .inr h
theorem rise_ins (x : It) : ∀ (l : List It), rise l → (∀ y ∈ l, y.k ≠ x.k) → rise (q0n l x)
  | [], _, _ => by unfold q0n rise; simp
  | y :: r, h, hx => by
    unfold rise at h
    rw [List.pairwise_cons] at h
    unfold q0n
    split
    · rename_i h1
      unfold rise
      rw [List.pairwise_cons]
      refine ⟨fun z hz => ?_, rise_ins x r h.2 (fun z hz => hx z (by simp [hz]))⟩
      rcases mem_insK hz with rfl | hz
      · exact h1
      · exact h.1 z hz
    · rename_i h1
      have hy := hx y (by simp)
      unfold rise
      rw [List.pairwise_cons, List.pairwise_cons]
      refine ⟨fun z hz => ?_, h⟩
      rcases List.mem_cons.1 hz with rfl | hz
      · omega
      · have := h.1 z hz; omega
theorem rise_put {l : List It} (h : rise l) (x : It) : rise (q1d l x) := by
  unfold q1d
  rcases item_key l x.k with ⟨h1, h2⟩ | ⟨i, y, h1, h2, -, h4⟩
  · rw [h1]
    refine rise_ins x l h (fun z hz e => ?_)
    unfold keyG at h2
    rw [List.find?_eq_none] at h2
    have := h2 z hz
    simp [e] at this
  · rw [h1]
    unfold rise at h ⊢
    rw [List.pairwise_iff_getElem] at h ⊢
    intro a b ha hb hab
    simp only [List.length_set] at ha hb
    obtain ⟨hi, hy⟩ := List.getElem?_eq_some_iff.1 h2
    have hk : ∀ c (hc : c < l.length), ((l.set i x)[c]'(by simpa using hc)).k = (l[c]).k := by
      intro c hc
      rw [List.getElem_set]
      split
      · rename_i e; subst e; rw [hy, h4]
      · rfl
    rw [hk a ha, hk b hb]
    exact h a b ha hb hab
theorem rise_step {x : Lok} (h : rise x.l) (s : St) : rise (x.step s).1.l := by
  unfold Lok.step
  split
  · show rise (x.next _).l
    generalize x.told s = v
    unfold Lok.next
    split
    · rw [Dk_u.qcn]; exact h
    split
    · split
      · rw [Dk_u.qcn]; exact h
      · exact h
    split
    · split
      · rw [Dk_u.qcn]; exact h
      · split
        · exact h
        · rw [Dk_u.seven_l]; exact h
    split
    · exact h
    split
    · exact h
    split
    · split
      · rw [Dk_u.qcn]; exact h
      · rw [Dk_u.seven_l]; exact h
    · rw [Dk_u.qcn]; exact rise_put h _
  · exact h
theorem rise_its (L : List Int) (a ck lo hi most : Int) : ∀ i, rise (its L a ck lo hi most i)
  | 0 => List.Pairwise.nil
  | i + 1 => by
    unfold its
    split
    · unfold addI
      split
      · exact rise_its L a ck lo hi most i
      · exact rise_put (rise_its L a ck lo hi most i) _
    · exact rise_its L a ck lo hi most i
/-- What lies in the cells of the range that have versions, behind a look. -/
def allI (L : List Int) (a ck lo hi : Int) : Nat → List It
  | 0 => []
  | i + 1 => allI L a ck lo hi i ++ if inn L a lo hi i ∧ 3 ≤ aft L a ck lo hi i then [itI L a ck lo hi i] else []
theorem its_fold (L : List Int) (a ck lo hi most : Int) : ∀ i, its L a ck lo hi most i = (allI L a ck lo hi i).foldl (addI most) []
  | 0 => rfl
  | i + 1 => by
    unfold its allI
    split
    · rw [List.foldl_append, ← its_fold L a ck lo hi most i]; rfl
    · rw [List.append_nil]; exact its_fold L a ck lo hi most i
theorem add_key (most : Int) (l : List It) (x : It) (k : Int) : keyG (addI most l x) k = lat1 k most (keyG l k) x := by
  unfold addI lat1 skipI
  by_cases e : x.k = k
  · subst e
    by_cases h : (decide (most < x.v) || (keyG l x.k).any fun z => decide (x.v < z.v)) = true
    · rw [qf h, qd]
      rintro ⟨-, h1, h2⟩
      rw [Bool.or_eq_true] at h
      rcases h with h | h
      · simp at h; omega
      · cases hz : keyG l x.k with
        | none => rw [hz] at h; cases h
        | some z => rw [hz] at h h2; simp at h h2; omega
    · rw [qd h, key_put, qf]
      · unfold putG; rw [qf rfl]
      · rw [Bool.not_eq_true, Bool.or_eq_false_iff] at h
        refine ⟨rfl, by have := h.1; simp at this; omega, ?_⟩
        cases hz : keyG l x.k with
        | none => rfl
        | some z => have := h.2; rw [hz] at this; simp at this ⊢; omega
  · rw [qd (c := x.k = k ∧ _) (fun h => e h.1)]
    split
    · rfl
    · rw [key_put]; unfold putG; rw [qd (fun h => e h.symm)]
theorem fold_key (most k : Int) : ∀ (l acc : List It), keyG (l.foldl (addI most) acc) k = l.foldl (lat1 k most) (keyG acc k)
  | [], _ => rfl
  | x :: r, acc => by rw [List.foldl_cons, List.foldl_cons, fold_key most k r, add_key]
theorem keyG_rise {l : List It} (h : rise l) (x : It) : keyG l x.k = some x ↔ x ∈ l := by
  constructor
  · intro e; exact List.mem_of_find?_eq_some e
  · intro hx
    rcases item_key l x.k with ⟨-, h2⟩ | ⟨i, y, -, h3, h4, h5⟩
    · unfold keyG at h2
      rw [List.find?_eq_none] at h2
      have := h2 x hx
      simp at this
    · rw [h4]
      have hy : y ∈ l := List.mem_of_getElem? h3
      congr 1
      refine Classical.byContradiction fun hne => ?_
      rcases List.mem_iff_getElem.1 hy with ⟨i1, h1, rfl⟩
      rcases List.mem_iff_getElem.1 hx with ⟨i2, h2, rfl⟩
      have hll := List.pairwise_iff_getElem.1 h
      by_cases e : i1 < i2
      · have := hll i1 i2 h1 h2 e; omega
      · by_cases e2 : i2 < i1
        · have := hll i2 i1 h2 h1 e2; omega
        · obtain rfl : i1 = i2 := by omega
          exact hne rfl
end Go.Proofs.YtaccfepnhmgagaaGreatDoor.Lp_u
namespace Go.Proofs.YtaccfepnhmgagaaGreatDoor.Lm_u
open Go.RowKit Go.Maps Go.Proofs.YtaccfepnhmgagaaGreatDoor.Ar Go.Proofs.YtaccfepnhmgagaaGreatDoor.Og Go.Proofs.YtaccfepnhmgagaaGreatDoor.Ref Go.Proofs.YtaccfepnhmgagaaGreatDoor.Mx Go.Proofs.YtaccfepnhmgagaaGreatDoor.Wd Go.Proofs.YtaccfepnhmgagaaGreatDoor.Dk_u Go.Proofs.YtaccfepnhmgagaaGreatDoor.Mp
set_option linter.unusedVariables false
set_option linter.unusedSimpArgs false
theorem lok_line {x:Lok} (s:St) (h:0≤x.line∧x.line≤7):0≤(x.step s).1.line∧(x.step s).1.line≤7:=by
 unfold Lok.step
 split
 ·exact next_line _ _
 ·exact h
structure LoW (c:Cf) (L:List Int) (a n ck:Int):Prop where
 h0:0≤a
 h1:a+7+3 * c.c≤(L.length:Int)
 h2:(L.length:Int)≤20000
 cap:0≤c.c∧c.c≤16
 hn:n=max 0 (min (qw L (a+1)) c.c)
 hk:qw L 1=ck
theorem LoW.n0 {c:Cf} {L:List Int} {a n ck:Int} (h:LoW c L a n ck):0≤n∧n≤16:=by have:=h.hn;have:=h.cap;omega
structure LoK (c:Cf) (L:List Int) (a n ck lo hi most:Int) (i nn:Nat) (x:Lok) (s:St):Prop where
 ok:Xp x
 ks:LkS x
 ln:0≤x.line∧x.line≤7
 r:Lp_u.rise x.l
 I:Zp s.l
 J:Lp_u.Jc_u L a c.c n ck lo hi most x s
 rem:(i:Int)+Lp_u.remC n x≤6 * n+1
 nn:nn≤i
theorem LoK.new {c:Cf} (hc:c.Ok) {s:St} {a n ck lo hi most:Int} (hlh:-9223372036854775808≤lo∧hi≤9223372036854775807) (hI:Zp s.l):LoK c s.l a n ck lo hi most 0 0 (Lok.new c a lo hi most) s :=
 ⟨Xp.new hc _ _ _ _,LkS.new c _ _ _ _ hlh,by show (0:Int)≤1∧(1:Int)≤7;decide,List.Pairwise.nil,hI,Lp_u.Jc_u.new c,by unfold Lp_u.remC Lok.new;simp,Nat.le_refl _⟩
theorem LoK.lt {c:Cf} {L:List Int} {a n ck lo hi most:Int} (w:LoW c L a n ck) {i nn:Nat} {x:Lok} {s:St} (h:LoK c L a n ck lo hi most i nn x s) (hl:x.line≠0):i<150:=by
 have h1:=h.J.rem w.n0.1 hl;have h2:=h.rem;have h3:=w.n0;omega
theorem LoK.step {c:Cf} {L:List Int} {a n ck lo hi most:Int} (w:LoW c L a n ck) {i nn n2:Nat} {x:Lok} {s:St} (h:LoK c L a n ck lo hi most i nn x s) (hl:x.line≠0) (hn:n2≤nn+1):LoK c L a n ck lo hi most (i+1) n2 (x.step s).1 (x.step s).2:=by
 obtain ⟨j1,j2⟩:=Lp_u.Jc_u.step w.h0 w.h1 w.h2 w.cap w.hn w.hk h.J hl
 exact ⟨h.ok.step s,h.ks.step s (fun p=>(h.I p).2),lok_line s h.ln,Lp_u.rise_step h.r s,qd9 h.I x,j1,by have:=h.rem;omega,by have:=h.nn;omega⟩
theorem LoK.done {c:Cf} {L:List Int} {a n ck lo hi most:Int} {i nn:Nat} {x:Lok} {s:St} (h:LoK c L a n ck lo hi most i nn x s) (hl:x.line=0):(∀ j,qw s.l j=Lp_u.want L a ck lo hi n.toNat j)∧x.l=Lp_u.its L a ck lo hi most n.toNat∧s.l.length=L.length :=
 ⟨(h.J.done hl).1,(h.J.done hl).2,h.J.len⟩
def LoAt (W:World) (b m pa qa:Nat) (c:Cf) (L:List Int) (a n ck lo hi most:Int) (iv:Value) (wr:World):Prop:=∃ (i nn:Nat) (x:Lok) (s:St),iv = .int .i64 (i:Nat)∧LoK c L a n ck lo hi most i nn x s∧x.line≠0∧DkIs wr b m nn x∧Ar wr pa qa s∧Fr [b,m,pa,qa] W wr
def PostT (w:World) (T:List It) (e:Ending) (w':World):Prop:=(∃ u,e = .returned u∧w'.ownsRow w.heap.size 65 3 u T.length (T.flatMap fT))∧Fr [] w w'
set_option maxRecDepth 100000 in
set_option maxHeartbeats 6400000 in
theorem through_any (c:Cf) (hc:c.Ok) (p q:Nat) (s:St) (a n ck lo hi most:Int) (hL:LoW c s.l a n ck) (hI:Zp s.l) (hlh:-9223372036854775808≤lo∧hi≤9223372036854775807) (w:World) (t:Word.Tab w) (hR:Rar w p q s) :
  Calls Tryz.prog 30 #[c.val,.pointer (some ⟨p,0,none⟩),.int .i64 a,.int .i64 lo,.int .i64 hi,.int .i64 most] w (PostT w (Lp_u.its s.l a ck lo hi most n.toNat)):=by
 unfold Cf.val
 have F0:=(Fr.refl [] w).alloc (.cells #[.int .i64 c.t,.int .i64 c.c,.int .i64 c.wd,.int .i64 c.v] 23)
 have oc:=Ob.new w 23 #[.int .i64 c.t,.int .i64 c.c,.int .i64 c.wd,.int .i64 c.v]
 have HT:=q9 t
 have HL:=q9 (qc hL (qc hI (qc hlh hc)))
 have R0:=hR.kept F0 (by simp) (by simp)
 clear t hL hI hlh hc hR
 go_enter Tryz.func30,Tryz.ntmps30
 go_wp2_with fail
 generalize World.alloc w _=w0 at *
 generalize hbc:w.heap.size=bc at *
 have HBC:=q9 hbc
 clear hbc
 refine (arena_any p q s _ R0).mono ?_;rintro e w1 ⟨pa,qa,rfl,hpa,hqa,Ha_u,F1⟩
 have G:=F0.trans F1
 have oc1:=oc.up F1
 have hcl:=oc.lt
 have hal:=Ha_u.lt
 clear oc F0 F1 R0
 obtain ⟨c0,c1,c2,c3⟩:=Pl.yn oc1
 go_wp2_with fail
 refine (dnew_any c a lo hi most _).mono ?_;rintro e w2 ⟨b,m,rfl,hb,hm,hbm,D,F2⟩
 have hfs:(q2p s.l).l=s.l:=rfl
 have hI6:Zp (q2p s.l).l:=HL.out.2.1
 have hLW:LoW c (q2p s.l).l a n ck:=HL.out.1
 have A2:=Ha_u.kept F2 (by simp) (by simp)
 have HG:=q9 (G.trans F2)
 have ht:=Dk_u.tabLt HT.out
 have hGs:=G.size
 have hbcs:=HBC.out
 have HN:=q9 (show (b≠pa∧b≠qa∧b≠m∧m≠pa∧m≠qa)∧(1≠b∧1≠m∧1≠pa∧1≠qa)∧(w.heap.size≤b∧w.heap.size≤m∧w.heap.size≤pa∧w.heap.size≤qa) by omega)
 have HW:=q9 (qc hLW hI6)
 have HFS:=q9 hfs
 clear c0 c1 c2 c3 Ha_u F2 G oc1 hcl hal hpa hqa hb hm hbm ht hGs hbcs hI6 hLW hfs
 generalize q2p s.l=sa at *
 have hnew:=LoK.new (lo:=lo) (hi:=hi) (most:=most) (a:=a) (n:=n) (ck:=ck) HL.out.2.2.2 (s:=sa) HL.out.2.2.1 HW.out.2
 go_wp2_with fail
 go_loopw [15] (fun iv wr=>LoAt w2 b m pa qa c sa.l a n ck lo hi most iv wr) (fun iv _=>300 - (intOf iv).toNat)
 case atStart=>exact ⟨0,0,_,sa,rfl,hnew,by show (1:Int)≠0;decide,D,A2,Fr.refl _ _⟩
 case round =>
  obtain ⟨i,nn,x,s2,rfl,hK,hl,D7,A7,F7⟩:=hrel
  have hi200:=hK.lt HW.out.1 hl
  have q1:decide ((i:Int)<300)=true:=by simp;omega
  have HS1:=q9 (dstep_any x hK.ok hK.ks hK.ln b m nn pa qa s2 (fun p=>(hK.I p).2) wr (Dk_u.tabK (Dk_u.tabK HT.out HG.out (by simp)) F7 (by simp;exact HN.out.2.1)) ⟨HN.out.2.1.2.2.1,HN.out.2.1.2.2.2⟩ (by have:=hK.nn;omega) HN.out.1 D7 A7)
  have HK:=q9 (qc hK (qc hl F7))
  clear hK hl D7 A7 F7 D A2 hnew
  go_wp2_with fail
  refine HS1.out.mono ?_;rintro e u7 ⟨rfl,⟨n3,hn3,D8⟩,A8,F8⟩
  have HK2:=q9 (HK.out.1.step HW.out.1 HK.out.2.1 hn3)
  have HF8:=q9 (HK.out.2.2.trans F8)
  clear HS1 HK F8 hn3
  generalize (x.step s2).1=x3 at *
  generalize (x.step s2).2=s3 at *
  by_cases hz:x3.line=0
  case neg =>
   rw [decide_eq_false hz]
   have HZ:=q9 hz
   clear hz
   go_wp2_with fail
   go_roundw
   case rel=>exact ⟨i+1,n3,x3,s3,by simp,HK2.out,HZ.out,D8,A8,HF8.out⟩
   case measure=>simp [intOf];omega
  rw [decide_eq_true hz]
  have HZ:=q9 hz
  have hnn3:n3≤1000:=by have h1:=HK2.out.nn;have h2:=HK2.out.rem;have h3:=HW.out.1.n0;unfold Lp_u.remC at h2;rw [qf hz] at h2;omega
  have HD8:=q9 (ditems_any x3 HK2.out.r b m n3 hnn3 _ D8)
  obtain ⟨-,d2,-⟩:=HK2.out.done hz
  rw [d2] at HD8
  clear hz D8 A8 d2 hnn3 hi200 q1
  go_wp2_with fail
  refine HD8.out.mono ?_;rintro e v1 ⟨u,rfl,hu,G1⟩
  have hsz:=HG.out.size
  have hsz2:=HF8.out.size
  have hfin:=HG.out.own (HF8.out.then G1) (by simp;exact HN.out.2.2)
  have hrow:v1.ownsRow w.heap.size 65 3 u (Lp_u.its sa.l a ck lo hi most n.toNat).length ((Lp_u.its sa.l a ck lo hi most n.toNat).flatMap fT):=by
   refine ⟨hu.1,hu.2.imp id ?_⟩
   rintro ⟨g,cap,cur,e1,e2,e3⟩
   exact ⟨g,cap,cur,e1,qh (by omega) e2,e3⟩
  have HFF:=q9 (qc hfin hrow)
  clear hfin hrow hu G1 hsz hsz2 HD8
  go_wp2_with fail
  go_ret
  have hfin:=HFF.out.2
  rw [HFS.out] at hfin
  exact ⟨⟨u,rfl,hfin⟩,HFF.out.1⟩
end Go.Proofs.YtaccfepnhmgagaaGreatDoor.Lm_u
namespace Go.Proofs.YtaccfepnhmgagaaGreatDoor.Lp_u
open Go.RowKit Go.Proofs.YtaccfepnhmgagaaGreatDoor.Ar Go.Proofs.YtaccfepnhmgagaaGreatDoor.Mx Go.Proofs.YtaccfepnhmgagaaGreatDoor.Dk_u
set_option linter.unusedVariables false
set_option linter.unusedSimpArgs false
theorem lat_mem {l:List It} {k v:Int} {w:It} (h:latT l k v=some w):w∈l∧w.k=k∧w.v≤v∧∀ x∈l,x.k=k→x.v≤v→x.v≤w.v:=by
 rw [latT_eq] at h
 have hm:=List.mem_of_getLast? h
 rw [List.mem_filter,P8_iff] at hm
 refine ⟨q04.1 hm.1,hm.2.1,hm.2.2,fun x hx e1 e2=>?_⟩
 have hs:Srt ((Zg l).filter (P8_u k v)):=q1e (q5n l) List.filter_sublist
 have hx2:x∈(Zg l).filter (P8_u k v):=by rw [List.mem_filter,P8_iff];exact ⟨q04.2 hx,e1,e2⟩
 obtain ⟨A,e⟩:=List.getLast?_eq_some_iff.1 h
 rw [e] at hs hx2
 rcases List.mem_append.1 hx2 with q | q
 ·have:=(List.pairwise_append.1 hs).2.2 x q w (by simp)
  unfold leT at this;omega
 ·rw [List.mem_singleton.1 q];exact Int.le_refl _
theorem lat_some {l:List It} {k v:Int} {x:It} (hx:x∈l) (e1:x.k=k) (e2:x.v≤v):∃ w,latT l k v=some w:=by
 cases h:latT l k v with
 | some w=>exact ⟨w,rfl⟩
 | none =>
  rw [latT_eq,List.getLast?_eq_none_iff,List.filter_eq_nil_iff] at h
  exact absurd (P8_iff.2 ⟨e1,e2⟩) (h x (q04.2 hx))
theorem lat_none {l:List It} {k v:Int} (h:latT l k v=none):∀ x∈l,x.k=k→¬ x.v≤v:=fun x hx e1 e2=>by
 obtain ⟨w,e⟩:=lat_some hx e1 e2
 rw [h] at e;cases e
theorem key_mem {l:List It} {k:Int} {y:It} (h:keyG l k=some y):y∈l∧y.k=k:=⟨List.mem_of_find?_eq_some h,keyG_key l k y h⟩
theorem rise_one {l:List It} (h:rise l) {x y:It} (hx:x∈l) (hy:y∈l) (e:x.k=y.k):x=y:=by
 have h1:=(keyG_rise h x).2 hx
 have h2:=(keyG_rise h y).2 hy
 rw [e,h2] at h1;exact (qi h1).symm
theorem lat_rise {l:List It} (hr:rise l) {k M:Int} (hM:∀ y∈l,y.v≤M):latT l k M=keyG l k:=by
 cases h:latT l k M with
 | some w =>
  obtain ⟨h1,h2,-,-⟩:=lat_mem h
  rw [← h2,(keyG_rise hr _).2 h1]
 | none =>
  cases h2:keyG l k with
  | none=>rfl
  | some y =>
   obtain ⟨h3,h4⟩:=key_mem h2
   exact absurd (hM y h3) (lat_none h y h3 h4)
section
variable {L:List Int} {a ck lo hi most:Int} {n:Nat}
theorem its_key (k:Int):keyG (its L a ck lo hi most n) k=latT (allI L a ck lo hi n) k most:=by
 rw [its_fold,fold_key];rfl
theorem its_mem {x:It} (h:x∈its L a ck lo hi most n):latT (allI L a ck lo hi n) x.k most=some x:=by
 rw [← its_key];exact (keyG_rise (rise_its L a ck lo hi most n) _).2 h
theorem its_le {x:It} (h:x∈its L a ck lo hi most n):x.v≤most:=(lat_mem (its_mem h)).2.2.1
theorem most_le {u v:Int} (huv:u≤v) {M:Int} (hM:v≤M) {x:It} (h:x∈its L a ck lo hi u n):x.v≤u∧∃ w,latT (its L a ck lo hi v n) x.k M=some w∧x.v≤w.v:=by
 obtain ⟨h1,-,h3,-⟩:=lat_mem (its_mem h)
 refine ⟨h3,?_⟩
 rw [lat_rise (rise_its L a ck lo hi v n) (fun y hy=>by have:=its_le hy;omega),its_key]
 obtain ⟨w,hw⟩:=lat_some (v:=v) h1 rfl (by omega)
 exact ⟨w,hw,(lat_mem hw).2.2.2 x h1 rfl (by omega)⟩
theorem one_key {k:Int} (hk:0≤k∧k≤63):∀ n,allI L a ck k k n=(allI L a ck 0 63 n).filter (fun y=>y.k == k)
 | 0=>rfl
 | n+1=>by
  unfold allI
  rw [List.filter_append,← one_key hk n]
  congr 1
  by_cases hi1:inn L a 0 63 n
  ·by_cases hi2:inn L a k k n
   ·have ea:aft L a ck k k n=aft L a ck 0 63 n:=by
     unfold aft
     by_cases e:qw L (stI a n)=1
     ·rw [qf ⟨e,hi2⟩,qf ⟨e,hi1⟩]
     ·rw [qd (fun q=>e q.1),qd (fun q=>e q.1)]
    have ek:qw L (stI a n+1)=k:=by unfold inn at hi2;omega
    have ei:itI L a ck k k n=itI L a ck 0 63 n:=by unfold itI;rw [ea]
    rw [ea,ei]
    by_cases h3:3≤aft L a ck 0 63 n
    ·rw [qf ⟨hi2,h3⟩,qf ⟨hi1,h3⟩]
     have:((itI L a ck 0 63 n).k == k)=true:=by unfold itI;simpa using ek
     rw [List.filter_cons,this];simp
    ·rw [qd (fun q=>h3 q.2),qd (fun q=>h3 q.2)];rfl
   ·rw [qd (fun q=>hi2 q.1)]
    have ek:qw L (stI a n+1)≠k:=by unfold inn at hi2;omega
    split
    ·have:((itI L a ck 0 63 n).k == k)=false:=by unfold itI;simpa using ek
     rw [List.filter_cons,this];simp
    ·rfl
  ·have hi2:¬ inn L a k k n:=by unfold inn at hi1 ⊢;omega
   rw [qd (fun q=>hi2 q.1),qd (fun q=>hi1 q.1)];rfl
theorem lat_filter (l:List It) (k v:Int):latT (l.filter (fun y=>y.k == k)) k v=latT l k v:=by
 unfold latT
 suffices H:∀ b:Option It,(l.filter (fun y=>y.k == k)).foldl (lat1 k v) b=l.foldl (lat1 k v) b from H none
 induction l with
 | nil=>intro b;rfl
 | cons y r ih =>
  intro b
  rw [List.filter_cons,List.foldl_cons]
  by_cases e:(y.k == k)=true
  ·rw [qf e,List.foldl_cons];exact ih _
  ·rw [qd e]
   have:lat1 k v b y=b:=by unfold lat1;rw [qd (fun q=>e (by simpa using q.1))]
   rw [this];exact ih _
theorem most_one {v M k:Int} (hk:0≤k∧k≤63) (hM:v≤M):its L a ck k k v n=(latT (its L a ck 0 63 v n) k M).toList:=by
 rw [lat_rise (rise_its L a ck 0 63 v n) (fun y hy=>by have:=its_le hy;omega),its_key,← lat_filter,← one_key hk,← its_key]
 have hr:=rise_its L a ck k k v n
 have hall:∀ y∈its L a ck k k v n,y.k=k:=fun y hy=>by
  have:=(lat_mem (its_mem hy)).1
  rw [one_key hk,List.mem_filter] at this
  simpa using this.2
 cases e:its L a ck k k v n with
 | nil=>rfl
 | cons y r =>
  rw [e] at hr hall
  have hy:=hall y (by simp)
  have hr0:r=[]:=by
   cases r with
   | nil=>rfl
   | cons z t =>
    have:=(List.pairwise_cons.1 hr).1 z (by simp)
    have:=hall z (by simp)
    omega
  subst hr0
  unfold keyG
  rw [List.find?_cons,show (y.k == k)=true by simpa using hy];rfl
end
end Go.Proofs.YtaccfepnhmgagaaGreatDoor.Lp_u
namespace Go.Proofs.YtaccfepnhmgagaaGreatDoor.Mx
open Go.RowKit Go.Proofs.YtaccfepnhmgagaaGreatDoor.Ar Go.Proofs.YtaccfepnhmgagaaGreatDoor.Ref Go.Proofs.YtaccfepnhmgagaaGreatDoor.Og Go.Proofs.YtaccfepnhmgagaaGreatDoor.Mp
set_option linter.unusedVariables false
set_option linter.unusedSimpArgs false
theorem runP_app {c:Cf} {rs:List (List O)} {ds ps qs:List Int} {t:Int}:q7w c rs ds (ps++(qs++[t]))=(q7w c rs ds (ps++qs)).pick t:=by
 unfold q7w;rw [← List.append_assoc,List.foldl_append];rfl
def StAt (N0:Nat) (c:Cf) (rs:List (List O)) (ds ps:List Int) (b:Nat) (w1:World) (u:Value) (wr:World):Prop:=∃ (t:Nat) (qs:List Int),(t:Int)≤c.t∧u = .int .i64 (t:Nat)∧qs.length≤60000 * t∧(∃ own y,jd N0 own wr b (q7w c rs ds (ps++qs)) y)∧FrO N0 w1 wr
def SuAt (N0:Nat) (c:Cf) (rs:List (List O)) (ds ps:List Int) (b t:Nat) (w1:World) (u:Value) (wr:World):Prop:=∃ (i:Nat) (qs:List Int),i≤60000∧u = .int .i64 (i:Nat)∧qs.length≤60000 * t+i∧(∃ own y,jd N0 own wr b (q7w c rs ds (ps++qs)) y)∧FrO N0 w1 wr
def SMade (c:Cf) (rs:List (List O)) (ds ps:List Int) (w:World) (e:Ending) (w':World):Prop:=∃ qs:List Int,qs.length≤480000∧q36 w (q7w c rs ds (ps++qs)).a e w'
set_option maxRecDepth 100000 in
set_option maxHeartbeats 6400000 in
theorem still_any (c:Cf) (rs:List (List O)) (ps ds:List Int) (ov pv dv:Value) (ss:List Sv) (R:List Nat) (s:Value) (w:World) (hS:q52 w s c rs ps ds ov pv dv ss R) (h0:Zj c.t c.c c.wd c.v rs ps=0) (hp:ps.length≤8000) (hc:c.Ok) :
  Calls Tryz.prog 28 #[s] w (SMade c rs ds ps w):=by
 obtain rfl:=hS.val
 have HS:=q9 hS
 have HC:=q9 h0
 have HK:=q9 (qc hc hp)
 obtain ⟨ao,co,hov,-,-,-⟩:=hS.rows.sq
 obtain ⟨ap,cp,hpv,-,-,-⟩:=hS.pk
 obtain ⟨ad,cd,hdv,-,-,-⟩:=hS.dr
 subst hov hpv hdv
 have hpk:=hS.pk
 have hpl:=fun hne=>Qy hpk hne
 clear hS h0 hc hp
 have F0:=(Fr.refl [] w).alloc (.cells #[.int .i64 c.t,.int .i64 c.c,.int .i64 c.wd,.int .i64 c.v,.slice ao ss.length co,.slice ap ps.length cp,.slice ad ds.length cd] 27)
 have o0:=Ob.new w 27 #[.int .i64 c.t,.int .i64 c.c,.int .i64 c.wd,.int .i64 c.v,.slice ao ss.length co,.slice ap ps.length cp,.slice ad ds.length cd]
 have HU:=q9 (HS.out.up F0)
 have hbl:=Ob.lt o0
 have HF0:=q9 F0
 clear F0
 go_enter Tryz.func28,Tryz.ntmps28
 go_wp2_with fail
 generalize World.alloc w _=w0 at *
 have hw0:=HF0.out.size
 generalize hbs:w.heap.size=bs at o0 hbl ⊢
 refine (Wj c rs ps ds _ _ _ ss R _ w0 HU.out HC.out).mono ?_;rintro e w1 ⟨b,own,y,rfl,hM,F1,hb⟩
 have o1:=Ob.up o0 F1
 have HO:=q9 (qc o1 hbl)
 have HM:=q9 hM
 have HF1:=q9 F1
 have HP:=q9 (qc (HU.out.pk.up F1) (fun hne g hg=>qj (hpl hne g hg) hw0))
 clear o0 o1 hM F1 hpk hpl
 have HBS:=q9 hbs
 clear hbs hbl hb
 go_wp2_with fail
 go_loopw [5] (fun u wr=>PkAt w0.heap.size c rs ds ps b w1 u wr) (fun u _=>ps.length - (intOf u).toNat)
 case atStart=>exact ⟨0,Nat.zero_le _,rfl,⟨own,y,HM.out⟩,FrO.refl _ _⟩
 case round =>
  obtain ⟨i,hi,rfl,⟨own2,y2,M2⟩,G⟩:=hrel
  have o2:=G.ob HO.out.1 HO.out.2
  have c5:=o2.cell (i:=5) rfl
  have hs2:=G.sq HP.out.1 HP.out.2
  have HG:=q9 G
  have HM2:=q9 M2
  by_cases hlt:i<ps.length
  ·clear M2 G o2
   have HI2:=q9 (show i+1≤ps.length∧ps.length - (i+1)<ps.length - i by omega)
   have hltz:(i:Int)<(ps.length:Int):=by omega
   have hi0:(0:Int)≤(i:Int):=by omega
   obtain ⟨p,hpi⟩:∃ p,ps[i]? = some p:=⟨ps[i],List.getElem?_eq_getElem hlt⟩
   obtain ⟨gp,op,rfl,d0⟩:=X0 hs2 hpi
   have HPI:=q9 hpi
   have hmv:=q7s ds HC.out (ps.take i)
   rw [List.length_take,Nat.min_eq_left hi] at hmv
   have HMV:=q9 hmv
   have hp8:=HK.out.2
   have hi9:i<8000:=by omega
   clear hpi hs2 hmv hlt
   go_wp2_with fail
   refine (q98 HMV.out (by omega) HM2.out (qh HF1.out.size HG.out.size) p).mono ?_;rintro e w3 ⟨rfl,hM3,G3⟩
   rw [← q58 HPI.out] at hM3
   have HM3:=q9 (qc hM3 (HG.out.trans G3))
   clear hM3 G3 d0 c5 hp8
   go_wp2_with fail
   go_roundw
   case rel=>exact ⟨i+1,HI2.out.1,by simp,HM3.out.1,HM3.out.2⟩
   case measure=>exact meas rfl HI2.out.2
  ·obtain rfl:i=ps.length:=by omega
   have HO2:=q9 o2
   clear hs2 M2 G o2 hlt hi
   have hM2:=HM2.out
   rw [List.take_length] at hM2
   have HM3:=q9 hM2
   clear hM2
   go_wp2_with fail
   clear c5
   go_loopw [6] (fun u wr=>StAt w0.heap.size c rs ds ps b w1 u wr) (fun u _=>8 - (intOf u).toNat)
   case atStart=>exact ⟨0,[],by have:=HK.out.1.t1;simp;omega,rfl,by simp,⟨own2,y2,by rw [List.append_nil];exact HM3.out⟩,HG.out⟩
   case round =>
    obtain ⟨t,qs,ht,rfl,hq,⟨own3,y3,M3⟩,G3⟩:=hrel
    have o3:=G3.ob HO.out.1 HO.out.2
    have c0:=o3.cell (i:=0) rfl
    have HT:=q9 (qc ht hq)
    have HG3:=q9 G3
    have HM4:=q9 M3
    clear M3 G3 o3 hq
    have hc8:=HK.out.1.t8
    by_cases hlt:(t:Int)<c.t
    ·have HL:=q9 hlt
     have ht8:t<8:=by omega
     clear ht
     go_wp2_with fail
     go_loopw [7] (fun u wr=>SuAt w0.heap.size c rs ds ps b t w1 u wr) (fun u _=>60000 - (intOf u).toNat)
     case atStart=>exact ⟨0,qs,by omega,rfl,by have:=HT.out.2;omega,⟨own3,y3,HM4.out⟩,HG3.out⟩
     case round =>
      obtain ⟨i,qs2,hi,rfl,hq2,⟨own4,y4,M4⟩,G4⟩:=hrel
      have HI:=q9 (qc hi hq2)
      have HG4:=q9 G4
      have HM5:=q9 M4
      clear M4 G4 hq2
      by_cases hi6:i<60000
      ·have q1:decide ((i:Int)<60000)=true:=by simp;omega
       have hov:=HM5.out.overC (t:Int)
       have HOV:=q9 hov
       clear hov hi
       go_wp2_with fail
       refine HOV.out.mono ?_;rintro e w4 ⟨rfl,F4⟩
       have hM6:=HM5.out.up F4
       have HM6:=q9 hM6
       have HG6:=q9 (HG4.out.trans (FrO.of (N0:=w0.heap.size) F4 (by simp)))
       have hmv:=q7s ds HC.out (ps++qs2)
       rw [List.length_append] at hmv
       have HMV:=q9 hmv
       have hp8:=HK.out.2
       have hq2:=HI.out.2
       clear F4 hM6 hmv HOV
       cases hob:(q7w c rs ds (ps++qs2)).over (t:Int) with
       | true =>
        go_wp2_with fail
        go_roundw
        case rel=>exact ⟨t+1,qs2,by have:=HL.out;push_cast;omega,by simp,by omega,⟨own4,y4,HM6.out⟩,HG6.out⟩
        case measure=>simp [intOf];omega
       | false =>
        go_wp2_with fail
        refine (q98 HMV.out (by omega) HM6.out (qh HF1.out.size HG6.out.size) (t:Int)).mono ?_;rintro e w5 ⟨rfl,hM7,G7⟩
        rw [← runP_app] at hM7
        have HM7:=q9 (qc hM7 (HG6.out.trans G7))
        clear hM7 G7
        go_wp2_with fail
        go_roundw
        case rel=>exact ⟨i+1,qs2++[(t:Int)],by omega,by simp,by simp;omega,HM7.out.1,HM7.out.2⟩
        case measure=>simp [intOf];omega
      ·obtain rfl:i=60000:=by omega
       have q1:decide (((60000:Nat):Int)<60000)=false:=by decide
       have hq2:=HI.out.2
       clear hi
       go_wp2_with fail
       go_roundw
       case rel=>exact ⟨t+1,qs2,by have:=HL.out;push_cast;omega,by simp,by omega,⟨own4,y4,HM5.out⟩,HG4.out⟩
       case measure=>simp [intOf];omega
    ·have htc:(t:Int)=c.t:=by omega
     have c7:wr.cell? ⟨b,7,none⟩=some (.pointer (some ⟨y3.p,0,none⟩)):=(zw HM4.out.ob).2.2.2.2.2.2.2.1
     have q1:decide ((t:Int)<c.t)=false:=by simp;omega
     clear ht htc
     go_wp2_with fail
     go_ret
     have hA:=HM4.out.ar
     have h1:=HM4.out.base y3.p (by rw [HM4.out.cp];decide)
     have h2:=HM4.out.base y3.q (by rw [HM4.out.cq];decide)
     have hb1:=HBS.out
     obtain ⟨S,hS,F⟩:=HG3.out
     refine ⟨qs,by have:=HT.out.2;have:=HT.out.1;omega,y3.p,y3.q,rfl,by omega,by omega,hA,(HF0.out.trans HF1.out).own F (fun k hk=>by have:=hS k hk;omega)⟩
end Go.Proofs.YtaccfepnhmgagaaGreatDoor.Mx
namespace Go.Proofs.YtaccfepnhmgagaaGreatDoor.Mx
open Go.RowKit Go.Proofs.YtaccfepnhmgagaaGreatDoor.Ar Go.Proofs.YtaccfepnhmgagaaGreatDoor.Ref Go.Proofs.YtaccfepnhmgagaaGreatDoor.Og Go.Proofs.YtaccfepnhmgagaaGreatDoor.Mp
set_option linter.unusedVariables false
set_option linter.unusedSimpArgs false
theorem pk_len (l:List Int) (p v:Int):(yl l p v).length=l.length:=by unfold yl;split <;> simp
def Ln (n:Nat) (s:St):Prop:=s.l.length=n
theorem ln_load {n:Nat} {s:St} (h:Ln n s) (p:Int):Ln n (s.load p):=h
theorem ln_store {n:Nat} {s:St} (h:Ln n s) (p v:Int):Ln n (s.store p v):=(pk_len _ _ _).trans h
theorem ln_add {n:Nat} {s:St} (h:Ln n s) (p v:Int):Ln n (s.add p v):=(pk_len _ _ _).trans h
theorem ln_swap {n:Nat} {s:St} (h:Ln n s) (p o v:Int):Ln n (s.swap p o v):=by
 unfold St.swap;split
 ·exact (pk_len _ _ _).trans h
 ·exact h
theorem ln_wk {n:Nat} {s:St} (h:Ln n s) (x:Wk):Ln n (x.step s).2:=by unfold Wk.step;split <;> exact h
theorem ln_cl {n:Nat} {s:St} (h:Ln n s) (x:Cl):Ln n (x.step s).2:=by
 unfold Cl.step Cl.act;split
 ·simp only;repeat' split
  all_goals first | exact ln_load h _ | exact ln_store h _ _ | exact ln_add h _ _ | exact ln_swap h _ _ _
 ·exact h
theorem ln_lk {n:Nat} {s:St} (h:Ln n s) (x:Lok):Ln n (x.step s).2:=by
 unfold Lok.step Lok.act;split
 ·simp only;repeat' split
  all_goals first | exact ln_load h _ | exact ln_swap h _ _ _
 ·exact h
theorem ln_km {n:Nat} {s:St} (h:Ln n s) (x:Km):Ln n (x.step s).2:=by
 unfold Km.step Km.act;split
 ·simp only;repeat' split
  all_goals first | exact ln_load h _ | exact ln_store h _ _ | exact ln_add h _ _ | exact ln_swap h _ _ _
 ·exact h
theorem ln_nd {n:Nat} {s:St} (h:Ln n s) (x:Nd):Ln n (x.step s).2:=by
 unfold Nd.step Nd.act;split
 ·simp only;repeat' split
  all_goals first | exact ln_load h _ | exact ln_add h _ _ | exact ln_swap h _ _ _
 ·exact h
theorem ln_sl {n:Nat} {s:St} (h:Ln n s) (x:Sl):Ln n (x.step s).2:=by
 unfold Sl.step Sl.act;split
 ·simp only;repeat' split
  all_goals first | exact ln_load h _ | exact ln_store h _ _ | exact ln_swap h _ _ _
 ·exact h
theorem ln_ld {n:Nat} {s:St} (h:Ln n s) (x:Ld):Ln n (x.step s).2:=by
 unfold Ld.step Ld.act;split
 ·simp only;repeat' split
  all_goals first | exact ln_load h _ | exact ln_swap h _ _ _
 ·exact h
theorem ln_sp {n:Nat} {s:St} (h:Ln n s) (x:Sp):Ln n (x.step s).2:=by
 unfold Sp.step Sp.act;split
 ·simp only;repeat' split
  all_goals first | exact ln_load h _ | exact ln_store h _ _ | exact ln_swap h _ _ _
 ·exact h
theorem ln_bd {n:Nat} {s:St} (h:Ln n s) (x:Bd):Ln n (x.step s).2:=by
 unfold Bd.step
 repeat' split
 all_goals first | exact ln_load h _ | exact ln_store h _ _ | exact ln_add h _ _ | exact ln_swap h _ _ _ | exact h
theorem ln_md {n:Nat} {s:St} (h:Ln n s) (x:Md):Ln n (x.step s).2:=by
 unfold Md.step
 split
 ·exact h
 ·simp only
  repeat' split
  all_goals first | exact h | exact ln_ld h _ | exact ln_sl h _ | exact ln_load h _ | exact ln_nd h _ | exact ln_bd h _ | exact ln_sp h _
theorem ln_pt {n:Nat} {s:St} (h:Ln n s) (x:Pt):Ln n (x.step s).2:=by
 unfold Pt.step
 repeat' split
 all_goals first | exact h | exact ln_md h _ | exact ln_cl h _ | exact ln_wk h _
theorem ln_gt {n:Nat} {s:St} (h:Ln n s) (x:Gt):Ln n (x.step s).2:=by
 unfold Gt.step
 repeat' split
 all_goals first | exact h | exact ln_lk h _ | exact ln_wk h _
theorem ln_sn {n:Nat} {s:St} (h:Ln n s) (x:Sn):Ln n (x.step s).2:=by
 unfold Sn.step
 repeat' split
 all_goals first | exact h | exact ln_km h _ | exact ln_wk h _ | exact ln_lk h _ | exact ln_load h _ | exact ln_store h _ _
theorem ln_steps {n:Nat} {m:Mc} (h:Ln n m.a) (t:Int) (k:Nat):Ln n (m.steps t k).a:=by
 unfold Mc.steps
 simp only
 split
 ·exact ln_pt h _
 ·split
  ·exact ln_gt h _
  ·split
   ·exact ln_sn h _
   ·exact h
theorem ln_notes {n:Nat} {m:Mc} (h:Ln n m.a):Ln n m.notes.a:=by
 have e:m.notes.a=m.a:=by
  unfold Mc.notes
  simp only
  split
  ·split
   ·simp only;split <;> rfl
   ·split <;> rfl
  ·split <;> rfl
 rw [e];exact h
theorem ln_pick {n:Nat} {m:Mc} (h:Ln n m.a) (t:Int):Ln n (m.pick t).a:=by
 unfold Mc.pick
 split
 ·exact h
 ·simp only
  have h1:Ln n (if (m.th t).busy=true then m else m.begins t).a:=by split <;> exact h
  generalize (if (m.th t).busy=true then m else m.begins t)=m1 at *
  split
  ·have h2:=ln_steps h1 t (by assumption)
   split
   ·exact ln_notes h2
   ·exact h2
  ·exact h1
theorem ln_run {n:Nat}:∀ (ps:List Int) (m:Mc),Ln n m.a→Ln n (ps.foldl Mc.pick m).a
 | [],_,h=>h
 | p :: ps,m,h=>ln_run ps _ (ln_pick h p)
theorem runP_len {c:Cf} (hc:c.Ok) (rs:List (List O)) (ds ps:List Int):((q7w c rs ds ps).a.l.length:Int)=c.wd:=by
 have h:=ln_run ps (Mc.new c rs ds) (n:=c.wd.toNat) (Pl.Vx (wd:=c.wd) hc.t1 hc.t8 (by have:=hc.c2;have:=hc.t1;omega) hc.top).1
 have e:(q7w c rs ds ps).a.l.length=c.wd.toNat:=h
 have:=hc.w1
 omega
end Go.Proofs.YtaccfepnhmgagaaGreatDoor.Mx
