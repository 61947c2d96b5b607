/- Texts that this proof leans on, one behind the other: Seal. -/
import Derived.Test.YtilipdnchflkhaaGreatDoorVat
set_option linter.unusedVariables false
set_option linter.unusedSimpArgs false
set_option maxRecDepth 100000
set_option maxHeartbeats 12800000
namespace Go.Proofs.YtilipdnchflkhaaGreatDoor.Mx
open Go.RowKit Go.Proofs.YtilipdnchflkhaaGreatDoor.Ar Go.Proofs.YtilipdnchflkhaaGreatDoor.Ref
def cellAtP (c:Cf) (chunk mate i:Int):Int:=if i<c.c then stAt chunk i else stAt mate (wrap64 (i - c.c))
def cellsP (c:Cf) (mate:Int):Int:=if mate=0 then c.c else 2 * c.c
theorem cellAt_any (c:Cf) (chunk mate i:Int) (hc:c.Ok) (w:World):Calls Tryz.prog 209 #[c.val,.int .i64 chunk,.int .i64 mate,.int .i64 i] w fun e w'=>e = .returned (.int .i64 (cellAtP c chunk mate i))∧Fr [] w w':=by
 unfold Cf.val
 have h16:=hc.c16
 have h2:=hc.c2
 have ht:=hc.t1
 have F0:=(Fr.refl [] w).alloc (.cells #[.int .i64 c.t,.int .i64 c.c,.int .i64 c.wd,.int .i64 c.v] 23)
 obtain ⟨c0,c1,c2,c3⟩:=Pl.cells4 (Go.heap_alloc_new w (.cells #[.int .i64 c.t,.int .i64 c.c,.int .i64 c.wd,.int .i64 c.v] 23))
 unfold cellAtP
 by_cases h:i<c.c
 ·rw [if_pos h]
  have g:decide (i<c.c)=true:=by simpa using h
  go_enter Tryz.func209,Tryz.ntmps209
  go_wp2_with (go_at_call 29;refine (stAt_any _ _ _).mono ?_;rintro e _ ⟨rfl,rfl⟩)
  go_ret
  exact ⟨rfl,F0⟩
 ·rw [if_neg h]
  have g:decide (i<c.c)=false:=by simpa using h
  go_enter Tryz.func209,Tryz.ntmps209
  go_wp2_with (go_at_call 29;refine (stAt_any _ _ _).mono ?_;rintro e _ ⟨rfl,rfl⟩)
  go_ret
  exact ⟨rfl,F0⟩
theorem cellsP_any (c:Cf) (mate:Int) (hc:c.Ok) (w:World):Calls Tryz.prog 210 #[c.val,.int .i64 mate] w fun e w'=>e = .returned (.int .i64 (cellsP c mate))∧Fr [] w w':=by
 unfold Cf.val
 have h16:=hc.c16
 have h2:=hc.c2
 have ht:=hc.t1
 have F0:=(Fr.refl [] w).alloc (.cells #[.int .i64 c.t,.int .i64 c.c,.int .i64 c.wd,.int .i64 c.v] 23)
 obtain ⟨c0,c1,c2,c3⟩:=Pl.cells4 (Go.heap_alloc_new w (.cells #[.int .i64 c.t,.int .i64 c.c,.int .i64 c.wd,.int .i64 c.v] 23))
 unfold cellsP
 by_cases h:mate=0
 ·rw [if_pos h]
  go_enter Tryz.func210,Tryz.ntmps210
  go_wp2
  go_ret
  exact ⟨rfl,F0⟩
 ·rw [if_neg h]
  go_enter Tryz.func210,Tryz.ntmps210
  go_wp2
  go_ret
  exact ⟨rfl,F0⟩
structure Sl where
 c:Cf
 chunk:Int
 mate:Int
 line:Int
 i:Int
 g:Int
def Sl.cells (x:Sl):Array Value:=#[.int .i64 x.c.t,.int .i64 x.c.c,.int .i64 x.c.wd,.int .i64 x.c.v,.int .i64 x.chunk,.int .i64 x.mate,.int .i64 x.line,.int .i64 x.i,.int .i64 x.g]
def SlAt (w:World) (b:Nat) (x:Sl):Prop:=Ob w b 284 x.cells
theorem slc_cells {w:World} {b:Nat} {x:Sl} (h:SlAt w b x):w.cell? ⟨b,0,none⟩=some (.int .i64 x.c.t)∧w.cell? ⟨b,1,none⟩=some (.int .i64 x.c.c)∧w.cell? ⟨b,2,none⟩=some (.int .i64 x.c.wd)∧w.cell? ⟨b,3,none⟩=some (.int .i64 x.c.v)∧w.cell? ⟨b,4,none⟩=some (.int .i64 x.chunk)∧w.cell? ⟨b,5,none⟩=some (.int .i64 x.mate)∧w.cell? ⟨b,6,none⟩=some (.int .i64 x.line)∧w.cell? ⟨b,7,none⟩=some (.int .i64 x.i)∧w.cell? ⟨b,8,none⟩=some (.int .i64 x.g) :=
 ⟨h.cell rfl,h.cell rfl,h.cell rfl,h.cell rfl,h.cell rfl,h.cell rfl,h.cell rfl,h.cell rfl,h.cell rfl⟩
def Sl.new (c:Cf) (chunk mate:Int):Sl:=⟨c,chunk,mate,1,0,0⟩
def Sl.sa (x:Sl):Int:=cellAtP x.c x.chunk x.mate x.i
def Sl.live (x:Sl):Bool:=decide (1≤x.line) && decide (x.line≤6)
def Sl.act (x:Sl) (s:St):St :=
 if x.line=1 then s.store (wrap64 (x.chunk+6)) 1 else if x.line=2 then s.store (wrap64 (x.mate+6)) 1 else if x.line=3 then s.load x.sa else if x.line=4 then s.swap x.sa 0 2 else if x.line=5 then s.load 1 else s.swap x.sa 1 (stateW x.g)
def Sl.told (x:Sl) (s:St):Int:=if x.line=3 then peek s.l x.sa else peek s.l 1
def Sl.next (x:Sl) (v:Int):Sl :=
 if x.line=1 then (if x.mate=0 then { x with line:=3 } else { x with line:=2 })
 else if x.line=2 then { x with line:=3 }
 else if x.line=3 then (if v=0 then { x with line:=4 } else if v=1 then { x with line:=5 } else if cellsP x.c x.mate≤wrap64 (x.i+1) then { x with i:=wrap64 (x.i+1),line:=0 } else { x with i:=wrap64 (x.i+1) })
 else if x.line=4 then { x with line:=3 } else if x.line=5 then { x with g:=v,line:=6 } else { x with line:=3 }
def Sl.step (x:Sl) (s:St):Sl×St:=if x.live=true then (x.next (x.told s),x.act s) else (x,s)
theorem newSeal_any (c:Cf) (chunk mate:Int) (w:World):Calls Tryz.prog 190 #[c.val,.int .i64 chunk,.int .i64 mate] w fun e w'=>∃ b,e = .returned (.pointer (some ⟨b,0,none⟩))∧w.heap.size≤b∧SlAt w' b (Sl.new c chunk mate)∧Fr [] w w':=by
 unfold Cf.val
 have F0:=(Fr.refl [] w).alloc (.cells #[.int .i64 c.t,.int .i64 c.c,.int .i64 c.wd,.int .i64 c.v] 23)
 obtain ⟨c0,c1,c2,c3⟩:=Pl.cells4 (Go.heap_alloc_new w (.cells #[.int .i64 c.t,.int .i64 c.c,.int .i64 c.wd,.int .i64 c.v] 23))
 go_enter Tryz.func190,Tryz.ntmps190
 go_wp2
 go_ret
 exact ⟨_,rfl,by omega,Ob.newAt (sizeA _ _) _ _,F0.alloc _⟩
theorem seal_step1 (x:Sl) (hl:x.line=1) (hc:x.c.Ok) (b p q:Nat) (s:St) (w:World) (h:SlAt w b x) (hA:Rar w p q s) (hp:b≠p) (hq:b≠q) :
  Calls Tryz.prog 191 #[.pointer (some ⟨b,0,none⟩),.pointer (some ⟨p,0,none⟩)] w fun e w'=>e = .returned (.bool (decide ((x.next (x.told s)).line=0)))∧SlAt w' b (x.next (x.told s))∧Rar w' p q (s.store (wrap64 (x.chunk+6)) 1)∧Fr [b,p,q] w w':=by
 generalize hy:x.next (x.told s)=y
 have HY:=Lib.hid hy
 clear hy
 obtain ⟨c0,c1,c2,c3,c4,c5,c6,c7,c8⟩:=slc_cells h
 have z:=h.frozen
 go_enter Tryz.func191,Tryz.ntmps191
 go_wp2_with fail
 have k0:=In.cell c0
 have k1:=In.cell c1
 have k2:=In.cell c2
 have k3:=In.cell c3
 have k4:=In.cell c4
 have k5:=In.cell c5
 have k7:=In.cell c7
 clear c0 c1 c2 c3 c4 c5 c6 c7 c8 z
 refine wi ?_
 repeat (go_big_quiet_step (((go_at_call 209;exact Calls.in_ (cellAt_any x.c _ _ _ hc _)))))
 refine wpQuiet_nil ?_
 intro w0 F0
 rw [show cellAtP x.c x.chunk x.mate x.i=x.sa from rfl]
 have h0:SlAt w0 b x:=Ob.up h F0
 have A0:=hA.kept F0
 have D0:Fr [b,p,q] w w0:=F0.mono
 clear k0 k1 k2 k3 k4 k5 k7 h hA F0
 obtain ⟨c0,c1,c2,c3,c4,c5,c6,c7,c8⟩:=slc_cells h0
 have z:=h0.frozen
 go_wp2_with fail
 have A1:=A0
 have h1:=h0
 have D1:=D0
 clear c0 c1 c2 c3 c4 c5 c6 c7 c8 z
 refine (Ref.store_any _ p q s _ _ A1).mono ?_;rintro e w5 ⟨rfl,A5,F5⟩
 have h5:=Ob.kept h1 F5 (by simp;exact ⟨hp,hq⟩)
 have D5:=frSub D1 F5 (by simp)
 clear A1 h1 D1 F5 A0 h0 D0
 obtain ⟨c0,c1,c2,c3,c4,c5,c6,c7,c8⟩:=slc_cells h5
 have z:=h5.frozen
 by_cases hm:x.mate=0
 ·have hn:y = { x with line:=3 }:=by rw [← HY.out];unfold Sl.next;simp [hl,hm]
  subst hn
  go_wp2_with fail
  go_ret
  rw [show ({ x with mate:=0,line:=3 }:Sl) = { x with line:=3 } by rw [← hm]]
  exact ⟨rfl,(Ob.set h5 (i:=6) (.int .i64 3)),(Rar.set A5 hp hq (i:=6) (.int .i64 3)),(Fr.setCell' D5 (b:=b) (i:=6) (.int .i64 3) (by simp))⟩
 ·have hn:y = { x with line:=2 }:=by rw [← HY.out];unfold Sl.next;simp [hl,hm]
  subst hn
  go_wp2_with fail
  go_ret
  exact ⟨rfl,(Ob.set (Ob.set h5 (i:=6) (.int .i64 3)) (i:=6) (.int .i64 2)),(Rar.set (Rar.set A5 hp hq (i:=6) (.int .i64 3)) hp hq (i:=6) (.int .i64 2)),(Fr.setCell' (Fr.setCell' D5 (b:=b) (i:=6) (.int .i64 3) (by simp)) (b:=b) (i:=6) (.int .i64 2) (by simp))⟩
theorem seal_step2 (x:Sl) (hl:x.line=2) (hc:x.c.Ok) (b p q:Nat) (s:St) (w:World) (h:SlAt w b x) (hA:Rar w p q s) (hp:b≠p) (hq:b≠q) :
  Calls Tryz.prog 191 #[.pointer (some ⟨b,0,none⟩),.pointer (some ⟨p,0,none⟩)] w fun e w'=>e = .returned (.bool (decide ((x.next (x.told s)).line=0)))∧SlAt w' b (x.next (x.told s))∧Rar w' p q (s.store (wrap64 (x.mate+6)) 1)∧Fr [b,p,q] w w':=by
 generalize hy:x.next (x.told s)=y
 have HY:=Lib.hid hy
 clear hy
 obtain ⟨c0,c1,c2,c3,c4,c5,c6,c7,c8⟩:=slc_cells h
 have z:=h.frozen
 go_enter Tryz.func191,Tryz.ntmps191
 go_wp2_with fail
 have k0:=In.cell c0
 have k1:=In.cell c1
 have k2:=In.cell c2
 have k3:=In.cell c3
 have k4:=In.cell c4
 have k5:=In.cell c5
 have k7:=In.cell c7
 clear c0 c1 c2 c3 c4 c5 c6 c7 c8 z
 refine wi ?_
 repeat (go_big_quiet_step (((go_at_call 209;exact Calls.in_ (cellAt_any x.c _ _ _ hc _)))))
 refine wpQuiet_nil ?_
 intro w0 F0
 rw [show cellAtP x.c x.chunk x.mate x.i=x.sa from rfl]
 have h0:SlAt w0 b x:=Ob.up h F0
 have A0:=hA.kept F0
 have D0:Fr [b,p,q] w w0:=F0.mono
 clear k0 k1 k2 k3 k4 k5 k7 h hA F0
 obtain ⟨c0,c1,c2,c3,c4,c5,c6,c7,c8⟩:=slc_cells h0
 have z:=h0.frozen
 go_wp2_with fail
 have A1:=A0
 have h1:=h0
 have D1:=D0
 clear c0 c1 c2 c3 c4 c5 c6 c7 c8 z
 refine (Ref.store_any _ p q s _ _ A1).mono ?_;rintro e w5 ⟨rfl,A5,F5⟩
 have h5:=Ob.kept h1 F5 (by simp;exact ⟨hp,hq⟩)
 have D5:=frSub D1 F5 (by simp)
 clear A1 h1 D1 F5 A0 h0 D0
 obtain ⟨c0,c1,c2,c3,c4,c5,c6,c7,c8⟩:=slc_cells h5
 have z:=h5.frozen
 have hn:y = { x with line:=3 }:=by rw [← HY.out];unfold Sl.next;simp [hl]
 subst hn
 go_wp2_with fail
 go_ret
 exact ⟨rfl,(Ob.set h5 (i:=6) (.int .i64 3)),(Rar.set A5 hp hq (i:=6) (.int .i64 3)),(Fr.setCell' D5 (b:=b) (i:=6) (.int .i64 3) (by simp))⟩
theorem seal_step3 (x:Sl) (hl:x.line=3) (hc:x.c.Ok) (b p q:Nat) (s:St) (w:World) (h:SlAt w b x) (hA:Rar w p q s) (hp:b≠p) (hq:b≠q) :
  Calls Tryz.prog 191 #[.pointer (some ⟨b,0,none⟩),.pointer (some ⟨p,0,none⟩)] w fun e w'=>e = .returned (.bool (decide ((x.next (peek s.l x.sa)).line=0)))∧SlAt w' b (x.next (peek s.l x.sa))∧Rar w' p q (s.load x.sa)∧Fr [b,p,q] w w':=by
 generalize hy:x.next (peek s.l x.sa)=y
 have HY:=Lib.hid hy
 clear hy
 obtain ⟨c0,c1,c2,c3,c4,c5,c6,c7,c8⟩:=slc_cells h
 have z:=h.frozen
 go_enter Tryz.func191,Tryz.ntmps191
 go_wp2_with fail
 have k0:=In.cell c0
 have k1:=In.cell c1
 have k2:=In.cell c2
 have k3:=In.cell c3
 have k4:=In.cell c4
 have k5:=In.cell c5
 have k7:=In.cell c7
 clear c0 c1 c2 c3 c4 c5 c6 c7 c8 z
 refine wi ?_
 repeat (go_big_quiet_step (((go_at_call 209;exact Calls.in_ (cellAt_any x.c _ _ _ hc _)))))
 refine wpQuiet_nil ?_
 intro w0 F0
 rw [show cellAtP x.c x.chunk x.mate x.i=x.sa from rfl]
 have h0:SlAt w0 b x:=Ob.up h F0
 have A0:=hA.kept F0
 have D0:Fr [b,p,q] w w0:=F0.mono
 clear k0 k1 k2 k3 k4 k5 k7 h hA F0
 obtain ⟨c0,c1,c2,c3,c4,c5,c6,c7,c8⟩:=slc_cells h0
 have z:=h0.frozen
 go_wp2_with fail
 have A1:=A0
 have h1:=h0
 have D1:=D0
 clear c0 c1 c2 c3 c4 c5 c6 c7 c8 z
 refine (Ref.load_any _ p q s _ A1).mono ?_;rintro e w5 ⟨rfl,A5,F5⟩
 have h5:=Ob.kept h1 F5 (by simp;exact ⟨hp,hq⟩)
 have D5:=frSub D1 F5 (by simp)
 clear A1 h1 D1 F5 A0 h0 D0
 obtain ⟨c0,c1,c2,c3,c4,c5,c6,c7,c8⟩:=slc_cells h5
 have z:=h5.frozen
 generalize hv:peek s.l x.sa=v at *
 by_cases hv0:v=0
 ·have hn:y = { x with line:=4 }:=by rw [← HY.out];unfold Sl.next;simp [hl,hv0]
  subst hn
  go_wp2_with fail
  go_ret
  exact ⟨rfl,(Ob.set h5 (i:=6) (.int .i64 4)),(Rar.set A5 hp hq (i:=6) (.int .i64 4)),(Fr.setCell' D5 (b:=b) (i:=6) (.int .i64 4) (by simp))⟩
 by_cases hv1:v=1
 ·have hn:y = { x with line:=5 }:=by rw [← HY.out];unfold Sl.next;simp [hl,hv1]
  subst hn
  go_wp2_with fail
  go_ret
  exact ⟨rfl,(Ob.set h5 (i:=6) (.int .i64 5)),(Rar.set A5 hp hq (i:=6) (.int .i64 5)),(Fr.setCell' D5 (b:=b) (i:=6) (.int .i64 5) (by simp))⟩
 have hv2:¬ (v=0∨v=1):=by omega
 go_wp2_with fail
 have e3:({ x with i:=wrap64 (x.i+1),line:=3 }:Sl) = { x with i:=wrap64 (x.i+1) }:=by rw [← hl]
 have h6:SlAt (w5.setCell ⟨b,7,none⟩ (.int .i64 (wrap64 (x.i+1)))) b { x with i:=wrap64 (x.i+1),line:=3 }:=by rw [e3];exact Ob.set h5 (i:=7) (.int .i64 (wrap64 (x.i+1)))
 have A6:=Rar.set A5 hp hq (i:=7) (.int .i64 (wrap64 (x.i+1)))
 have D6:=Fr.setCell' D5 (b:=b) (i:=7) (.int .i64 (wrap64 (x.i+1))) (by simp)
 clear h5 A5 D5 z c0 c1 c2 c3 c4 c5 c6 c7 c8 e3
 generalize (w5.setCell ⟨b,7,none⟩ (.int .i64 (wrap64 (x.i+1))))=w6 at *
 obtain ⟨c0,c1,c2,c3,c4,c5,c6,c7,c8⟩:=slc_cells h6
 have k0:=In.cell c0
 have k1:=In.cell c1
 have k2:=In.cell c2
 have k3:=In.cell c3
 have k5:=In.cell c5
 have k7:=In.cell c7
 clear c0 c1 c2 c3 c4 c5 c6 c7 c8
 refine wi ?_
 repeat (go_big_quiet_step ((go_at_call 210;exact Calls.in_ (cellsP_any x.c _ hc _))))
 refine wpQuiet_nil ?_
 intro w7 F7
 have h5:=Ob.up h6 F7
 have A5:=A6.kept F7
 have D5:=D6.then F7
 clear h6 A6 D6 F7 k0 k1 k2 k3 k5 k7
 obtain ⟨c0,c1,c2,c3,c4,c5,c6,c7,c8⟩:=slc_cells h5
 have z:=h5.frozen
 by_cases hv3:cellsP x.c x.mate≤wrap64 (x.i+1)
 ·have hn:y = { x with i:=wrap64 (x.i+1),line:=0 }:=by rw [← HY.out];unfold Sl.next;simp [hl,hv0,hv1,hv3]
  subst hn
  have g:decide (wrap64 (x.i+1)≥cellsP x.c x.mate)=true:=by simpa using hv3
  go_wp2_with fail
  go_ret
  exact ⟨rfl,(Ob.set h5 (i:=6) (.int .i64 0)),(Rar.set A5 hp hq (i:=6) (.int .i64 0)),(Fr.setCell' D5 (b:=b) (i:=6) (.int .i64 0) (by simp))⟩
 ·have hn:y = { x with i:=wrap64 (x.i+1),line:=3 }:=by rw [← HY.out];unfold Sl.next;simp [hl,hv0,hv1,hv3]
  subst hn
  have g:decide (wrap64 (x.i+1)≥cellsP x.c x.mate)=false:=by simpa using hv3
  go_wp2_with fail
  go_ret
  exact ⟨rfl,h5,A5,D5⟩
theorem seal_step4 (x:Sl) (hl:x.line=4) (hc:x.c.Ok) (b p q:Nat) (s:St) (w:World) (h:SlAt w b x) (hA:Rar w p q s) (hp:b≠p) (hq:b≠q) :
  Calls Tryz.prog 191 #[.pointer (some ⟨b,0,none⟩),.pointer (some ⟨p,0,none⟩)] w fun e w'=>e = .returned (.bool (decide ((x.next (x.told s)).line=0)))∧SlAt w' b (x.next (x.told s))∧Rar w' p q (s.swap x.sa 0 2)∧Fr [b,p,q] w w':=by
 generalize hy:x.next (x.told s)=y
 have HY:=Lib.hid hy
 clear hy
 obtain ⟨c0,c1,c2,c3,c4,c5,c6,c7,c8⟩:=slc_cells h
 have z:=h.frozen
 go_enter Tryz.func191,Tryz.ntmps191
 go_wp2_with fail
 have k0:=In.cell c0
 have k1:=In.cell c1
 have k2:=In.cell c2
 have k3:=In.cell c3
 have k4:=In.cell c4
 have k5:=In.cell c5
 have k7:=In.cell c7
 clear c0 c1 c2 c3 c4 c5 c6 c7 c8 z
 refine wi ?_
 repeat (go_big_quiet_step (((go_at_call 209;exact Calls.in_ (cellAt_any x.c _ _ _ hc _)))))
 refine wpQuiet_nil ?_
 intro w0 F0
 rw [show cellAtP x.c x.chunk x.mate x.i=x.sa from rfl]
 have h0:SlAt w0 b x:=Ob.up h F0
 have A0:=hA.kept F0
 have D0:Fr [b,p,q] w w0:=F0.mono
 clear k0 k1 k2 k3 k4 k5 k7 h hA F0
 obtain ⟨c0,c1,c2,c3,c4,c5,c6,c7,c8⟩:=slc_cells h0
 have z:=h0.frozen
 go_wp2_with fail
 have A1:=A0
 have h1:=h0
 have D1:=D0
 clear c0 c1 c2 c3 c4 c5 c6 c7 c8 z
 refine (Ref.swap_any _ p q s _ 0 2 A1).mono ?_;rintro e w5 ⟨rfl,A5,F5⟩
 have h5:=Ob.kept h1 F5 (by simp;exact ⟨hp,hq⟩)
 have D5:=frSub D1 F5 (by simp)
 clear A1 h1 D1 F5 A0 h0 D0
 obtain ⟨c0,c1,c2,c3,c4,c5,c6,c7,c8⟩:=slc_cells h5
 have z:=h5.frozen
 have hn:y = { x with line:=3 }:=by rw [← HY.out];unfold Sl.next;simp [hl]
 subst hn
 go_wp2_with fail
 go_ret
 exact ⟨rfl,(Ob.set h5 (i:=6) (.int .i64 3)),(Rar.set A5 hp hq (i:=6) (.int .i64 3)),(Fr.setCell' D5 (b:=b) (i:=6) (.int .i64 3) (by simp))⟩
theorem seal_step5 (x:Sl) (hl:x.line=5) (hc:x.c.Ok) (b p q:Nat) (s:St) (w:World) (h:SlAt w b x) (hA:Rar w p q s) (hp:b≠p) (hq:b≠q) :
  Calls Tryz.prog 191 #[.pointer (some ⟨b,0,none⟩),.pointer (some ⟨p,0,none⟩)] w fun e w'=>e = .returned (.bool (decide ((x.next (peek s.l 1)).line=0)))∧SlAt w' b (x.next (peek s.l 1))∧Rar w' p q (s.load 1)∧Fr [b,p,q] w w':=by
 generalize hy:x.next (peek s.l 1)=y
 have HY:=Lib.hid hy
 clear hy
 obtain ⟨c0,c1,c2,c3,c4,c5,c6,c7,c8⟩:=slc_cells h
 have z:=h.frozen
 go_enter Tryz.func191,Tryz.ntmps191
 go_wp2_with fail
 have k0:=In.cell c0
 have k1:=In.cell c1
 have k2:=In.cell c2
 have k3:=In.cell c3
 have k4:=In.cell c4
 have k5:=In.cell c5
 have k7:=In.cell c7
 clear c0 c1 c2 c3 c4 c5 c6 c7 c8 z
 refine wi ?_
 repeat (go_big_quiet_step (((go_at_call 209;exact Calls.in_ (cellAt_any x.c _ _ _ hc _)))))
 refine wpQuiet_nil ?_
 intro w0 F0
 rw [show cellAtP x.c x.chunk x.mate x.i=x.sa from rfl]
 have h0:SlAt w0 b x:=Ob.up h F0
 have A0:=hA.kept F0
 have D0:Fr [b,p,q] w w0:=F0.mono
 clear k0 k1 k2 k3 k4 k5 k7 h hA F0
 obtain ⟨c0,c1,c2,c3,c4,c5,c6,c7,c8⟩:=slc_cells h0
 have z:=h0.frozen
 go_wp2_with fail
 have A1:=A0
 have h1:=h0
 have D1:=D0
 clear c0 c1 c2 c3 c4 c5 c6 c7 c8 z
 refine (Ref.load_any _ p q s 1 A1).mono ?_;rintro e w5 ⟨rfl,A5,F5⟩
 have h5:=Ob.kept h1 F5 (by simp;exact ⟨hp,hq⟩)
 have D5:=frSub D1 F5 (by simp)
 clear A1 h1 D1 F5 A0 h0 D0
 obtain ⟨c0,c1,c2,c3,c4,c5,c6,c7,c8⟩:=slc_cells h5
 have z:=h5.frozen
 have hn:y = { x with g:=peek s.l 1,line:=6 }:=by rw [← HY.out];unfold Sl.next;simp [hl]
 subst hn
 go_wp2_with fail
 go_ret
 exact ⟨rfl,(Ob.set (Ob.set h5 (i:=8) (.int .i64 (peek s.l 1))) (i:=6) (.int .i64 6)),(Rar.set (Rar.set A5 hp hq (i:=8) (.int .i64 (peek s.l 1))) hp hq (i:=6) (.int .i64 6)),(Fr.setCell' (Fr.setCell' D5 (b:=b) (i:=8) (.int .i64 (peek s.l 1)) (by simp)) (b:=b) (i:=6) (.int .i64 6) (by simp))⟩
theorem seal_step6 (x:Sl) (hl:x.line=6) (hc:x.c.Ok) (b p q:Nat) (s:St) (w:World) (h:SlAt w b x) (hA:Rar w p q s) (hp:b≠p) (hq:b≠q) :
  Calls Tryz.prog 191 #[.pointer (some ⟨b,0,none⟩),.pointer (some ⟨p,0,none⟩)] w fun e w'=>e = .returned (.bool (decide ((x.next (x.told s)).line=0)))∧SlAt w' b (x.next (x.told s))∧Rar w' p q (s.swap x.sa 1 (stateW x.g))∧Fr [b,p,q] w w':=by
 generalize hy:x.next (x.told s)=y
 have HY:=Lib.hid hy
 clear hy
 obtain ⟨c0,c1,c2,c3,c4,c5,c6,c7,c8⟩:=slc_cells h
 have z:=h.frozen
 go_enter Tryz.func191,Tryz.ntmps191
 go_wp2_with fail
 have k0:=In.cell c0
 have k1:=In.cell c1
 have k2:=In.cell c2
 have k3:=In.cell c3
 have k4:=In.cell c4
 have k5:=In.cell c5
 have k7:=In.cell c7
 clear c0 c1 c2 c3 c4 c5 c6 c7 c8 z
 refine wi ?_
 repeat (go_big_quiet_step (((go_at_call 209;exact Calls.in_ (cellAt_any x.c _ _ _ hc _)))))
 refine wpQuiet_nil ?_
 intro w0 F0
 rw [show cellAtP x.c x.chunk x.mate x.i=x.sa from rfl]
 have h0:SlAt w0 b x:=Ob.up h F0
 have A0:=hA.kept F0
 have D0:Fr [b,p,q] w w0:=F0.mono
 clear k0 k1 k2 k3 k4 k5 k7 h hA F0
 obtain ⟨c0,c1,c2,c3,c4,c5,c6,c7,c8⟩:=slc_cells h0
 have z:=h0.frozen
 go_wp2_with fail
 refine (state_any _ _).mono ?_;rintro e _ ⟨rfl,rfl⟩
 go_wp2_with fail
 have A1:=A0
 have h1:=h0
 have D1:=D0
 clear c0 c1 c2 c3 c4 c5 c6 c7 c8 z
 refine (Ref.swap_any _ p q s _ 1 _ A1).mono ?_;rintro e w5 ⟨rfl,A5,F5⟩
 have h5:=Ob.kept h1 F5 (by simp;exact ⟨hp,hq⟩)
 have D5:=frSub D1 F5 (by simp)
 clear A1 h1 D1 F5 A0 h0 D0
 obtain ⟨c0,c1,c2,c3,c4,c5,c6,c7,c8⟩:=slc_cells h5
 have z:=h5.frozen
 have hn:y = { x with line:=3 }:=by rw [← HY.out];unfold Sl.next;simp [hl]
 subst hn
 go_wp2_with fail
 go_ret
 exact ⟨rfl,(Ob.set h5 (i:=6) (.int .i64 3)),(Rar.set A5 hp hq (i:=6) (.int .i64 3)),(Fr.setCell' D5 (b:=b) (i:=6) (.int .i64 3) (by simp))⟩
theorem seal_step0 (x:Sl) (hl:x.live=false) (hc:x.c.Ok) (b p q:Nat) (w:World) (h:SlAt w b x) :
  Calls Tryz.prog 191 #[.pointer (some ⟨b,0,none⟩),.pointer (some ⟨p,0,none⟩)] w fun e w'=>e = .returned (.bool (decide (x.line=0)))∧Fr [] w w':=by
 obtain ⟨c0,c1,c2,c3,c4,c5,c6,c7,c8⟩:=slc_cells h
 unfold Sl.live at hl
 have l1:x.line≠1:=by intro h;rw [h] at hl;simp at hl
 have l2:x.line≠2:=by intro h;rw [h] at hl;simp at hl
 have l3:x.line≠3:=by intro h;rw [h] at hl;simp at hl
 have l4:x.line≠4:=by intro h;rw [h] at hl;simp at hl
 have l5:x.line≠5:=by intro h;rw [h] at hl;simp at hl
 have l6:x.line≠6:=by intro h;rw [h] at hl;simp at hl
 clear hl
 go_enter Tryz.func191,Tryz.ntmps191
 go_wp2_with fail
 have hcl:=c6
 have k0:=In.cell c0
 have k1:=In.cell c1
 have k2:=In.cell c2
 have k3:=In.cell c3
 have k4:=In.cell c4
 have k5:=In.cell c5
 have k7:=In.cell c7
 clear c0 c1 c2 c3 c4 c5 c6 c7 c8
 refine wi ?_
 repeat (go_big_quiet_step (((go_at_call 209;exact Calls.in_ (cellAt_any x.c _ _ _ hc _)))))
 refine wpQuiet_nil ?_
 intro w0 F0
 rw [show cellAtP x.c x.chunk x.mate x.i=x.sa from rfl]
 have c6:=F0.cell hcl (by simp)
 go_wp2_with fail
 go_ret
 exact ⟨rfl,F0⟩
theorem seal_step (x:Sl) (hc:x.c.Ok) (b p q:Nat) (s:St) (w:World) (h:SlAt w b x) (hA:Rar w p q s) (hp:b≠p) (hq:b≠q) :
  Calls Tryz.prog 191 #[.pointer (some ⟨b,0,none⟩),.pointer (some ⟨p,0,none⟩)] w fun e w'=>e = .returned (.bool (decide ((x.step s).1.line=0)))∧SlAt w' b (x.step s).1∧Rar w' p q (x.step s).2∧Fr [b,p,q] w w':=by
 unfold Sl.step
 cases hl:x.live with
 | false=>exact (seal_step0 x hl hc b p q w h).mono (by rintro e w' ⟨rfl,F⟩;exact ⟨rfl,Ob.up h F,hA.kept F,F.mono⟩)
 | true =>
  unfold Sl.live at hl
  have hl':x.line=1∨x.line=2∨x.line=3∨x.line=4∨x.line=5∨x.line=6:=by
   simp only [Bool.and_eq_true,Bool.or_eq_true,decide_eq_true_eq] at hl;omega
  rw [if_pos rfl]
  rcases hl' with l | l | l | l | l | l
  ·rw [show x.act s=s.store (wrap64 (x.chunk+6)) 1 by unfold Sl.act;simp [l]];exact seal_step1 x l hc b p q s w h hA hp hq
  ·rw [show x.act s=s.store (wrap64 (x.mate+6)) 1 by unfold Sl.act;simp [l]];exact seal_step2 x l hc b p q s w h hA hp hq
  ·rw [show x.act s=s.load x.sa by unfold Sl.act;simp [l],show x.told s=peek s.l x.sa by unfold Sl.told;simp [l]];exact seal_step3 x l hc b p q s w h hA hp hq
  ·rw [show x.act s=s.swap x.sa 0 2 by unfold Sl.act;simp [l]];exact seal_step4 x l hc b p q s w h hA hp hq
  ·rw [show x.act s=s.load 1 by unfold Sl.act;simp [l],show x.told s=peek s.l 1 by unfold Sl.told;simp [l]];exact seal_step5 x l hc b p q s w h hA hp hq
  ·rw [show x.act s=s.swap x.sa 1 (stateW x.g) by unfold Sl.act;simp [l]];exact seal_step6 x l hc b p q s w h hA hp hq
end Go.Proofs.YtilipdnchflkhaaGreatDoor.Mx
