/- Texts that this proof leans on, one behind the other: Claim, Cell. -/
import Derived.Test.YtilipdnchflkhaaGreatDoorVat
set_option linter.unusedVariables false
set_option linter.unusedSimpArgs false
set_option maxRecDepth 100000
set_option maxHeartbeats 12800000
namespace Go.Proofs.YtilipdnchflkhaaGreatDoor.Mx
open Go.RowKit Go.Proofs.YtilipdnchflkhaaGreatDoor.Ar Go.Proofs.YtilipdnchflkhaaGreatDoor.Ref
structure Km where
 c:Cf
 t:Int
 seq:Int
 line:Int
 v:Int
 version:Int
 e:Int
def Km.cells (x:Km):Array Value:=#[.int .i64 x.c.t,.int .i64 x.c.c,.int .i64 x.c.wd,.int .i64 x.c.v,.int .i64 x.t,.int .i64 x.seq,.int .i64 x.line,.int .i64 x.v,.int .i64 x.version,.int .i64 x.e]
def KmAt (w:World) (b:Nat) (x:Km):Prop:=Ob w b 240 x.cells
theorem km_cells {w:World} {b:Nat} {x:Km} (h:KmAt w b x):w.cell? ⟨b,0,none⟩=some (.int .i64 x.c.t)∧w.cell? ⟨b,1,none⟩=some (.int .i64 x.c.c)∧w.cell? ⟨b,2,none⟩=some (.int .i64 x.c.wd)∧w.cell? ⟨b,3,none⟩=some (.int .i64 x.c.v)∧w.cell? ⟨b,4,none⟩=some (.int .i64 x.t)∧w.cell? ⟨b,5,none⟩=some (.int .i64 x.seq)∧w.cell? ⟨b,6,none⟩=some (.int .i64 x.line)∧w.cell? ⟨b,7,none⟩=some (.int .i64 x.v)∧w.cell? ⟨b,8,none⟩=some (.int .i64 x.version)∧w.cell? ⟨b,9,none⟩=some (.int .i64 x.e) :=
 ⟨h.cell rfl,h.cell rfl,h.cell rfl,h.cell rfl,h.cell rfl,h.cell rfl,h.cell rfl,h.cell rfl,h.cell rfl,h.cell rfl⟩
def Km.new (c:Cf) (t seq:Int):Km:=⟨c,t,seq,1,0,0,0⟩
def Km.pa (x:Km):Int:=psaP x.t
def Km.live (x:Km):Bool:=decide (1≤x.line) && decide (x.line≤5)
def Km.act (x:Km) (s:St):St :=
 if x.line=1 then s.load 1 else if x.line=2 then s.store x.pa (claimW x.seq 1) else if x.line=3 then s.add 1 1 else if x.line=4 then s.swap x.pa (claimW x.seq 1) (claimW x.seq (wrap64 (x.v+2))) else s.load x.pa
def Km.told (x:Km) (s:St):Int:=if x.line=1∨x.line=3 then peek s.l 1 else peek s.l x.pa
def Km.next (x:Km) (v:Int):Km :=
 if x.line=1 then (if x.c.v≤v then { x with e:=15,line:=0 } else { x with line:=2 })
 else if x.line=2 then { x with line:=3 } else if x.line=3 then { x with v:=v,line:=4 } else if x.line=4 then { x with line:=5 } else { x with version:=partW v - 2,line:=0 }
def Km.step (x:Km) (s:St):Km×St:=if x.live=true then (x.next (x.told s),x.act s) else (x,s)
theorem newClaim_any (c:Cf) (t seq:Int) (w:World):Calls Tryz.prog 164 #[c.val,.int .i64 t,.int .i64 seq] w fun e w'=>∃ b,e = .returned (.pointer (some ⟨b,0,none⟩))∧w.heap.size≤b∧KmAt w' b (Km.new c t seq)∧Fr [] w w':=by
 unfold Cf.val
 have F0:=(Fr.refl [] w).alloc (.cells #[.int .i64 c.t,.int .i64 c.c,.int .i64 c.wd,.int .i64 c.v] 23)
 obtain ⟨c0,c1,c2,c3⟩:=Pl.cells4 (Go.heap_alloc_new w (.cells #[.int .i64 c.t,.int .i64 c.c,.int .i64 c.wd,.int .i64 c.v] 23))
 go_enter Tryz.func164,Tryz.ntmps164
 go_wp2
 go_ret
 exact ⟨_,rfl,by omega,Ob.newAt (sizeA _ _) _ _,F0.alloc _⟩
theorem claim_step1 (x:Km) (hl:x.line=1) (hc:x.c.Ok) (ht:0≤x.t∧x.t≤8) (b p q:Nat) (s:St) (w:World) (h:KmAt w b x) (hA:Rar w p q s) (hp:b≠p) (hq:b≠q) :
  Calls Tryz.prog 171 #[.pointer (some ⟨b,0,none⟩),.pointer (some ⟨p,0,none⟩)] w fun e w'=>e = .returned (.bool (decide ((x.next (peek s.l 1)).line=0)))∧KmAt w' b (x.next (peek s.l 1))∧Rar w' p q (s.load 1)∧Fr [b,p,q] w w':=by
 generalize hy:x.next (peek s.l 1)=y
 have HY:=Lib.hid hy
 clear hy
 obtain ⟨c0,c1,c2,c3,c4,c5,c6,c7,c8,c9⟩:=km_cells h
 have z:=h.frozen
 go_enter Tryz.func171,Tryz.ntmps171
 go_wp2_with fail
 have h0:=h
 have A0:=hA
 have D0:=Fr.refl [b,p,q] w
 clear h hA
 have hw0:=Lib.hid (Eq.refl w)
 refine (Ref.psa_any x.t ht.1 ht.2 _).mono ?_;rintro e _ ⟨rfl,rfl⟩
 rw [show (3:Int)+x.t=x.pa from rfl]
 go_wp2_with fail
 have A1:=(Rar.set A0 hp hq (i:=6) (.int .i64 2))
 have h1:KmAt _ b { x with line:=2 }:=(Ob.set h0 (i:=6) (.int .i64 2))
 have D1:=(Fr.setCell' D0 (b:=b) (i:=6) (.int .i64 2) (by simp))
 clear c0 c1 c2 c3 c4 c5 c6 c7 c8 c9 z
 generalize (w.setCell ⟨b,6,none⟩ (.int .i64 2))=w1 at *
 refine wp_region_env (by kernel_rfl) [p,q] (fun w2 F2=>?_)
 refine ep [true,false,true,true,true,true,true,false] 2 (F2.mono) ?_
 apply Exists.intro
 refine ⟨fun wf Ff=>?_,?_⟩
 ·have hf:KmAt wf b { x with line:=2 }:=Ob.kept h1 Ff (by simp;exact ⟨hp,hq⟩)
  obtain ⟨c0,c1,c2,c3,-,-,-,-,-,-⟩:=km_cells hf
  have k0:=In.cell c0
  have k1:=In.cell c1
  have k2:=In.cell c2
  have k3:=In.cell c3
  clear hf c0 c1 c2 c3
  simp only [sel]
  repeat (go_big_quiet_step (fail))
  exact wpQuiet_nil rfl
 refine eo 1 (fun w3 F3=>?_)
 have E3:=F2.trans F3
 have A3:=A1.kept E3
 have h3:=Ob.up h1 E3
 have G3:=frSub D1 E3 (by simp)
 clear F2 F3 A1 h1 D1 A0 h0 D0
 go_wp2_with fail
 refine (Ref.load_any _ p q s 1 A3).mono ?_;rintro e w4 ⟨rfl,A4,F4⟩
 have E4:=(E3.mono (T:=[p,q]) (by simp)).trans F4
 have h4:=h3.kept F4 (by simp;exact ⟨hp,hq⟩)
 have G4:=frSub G3 F4 (by simp)
 clear A3 h3 F4 G3 E3
 go_wp2_with fail
 refine nx_normal ⟨E4,?_⟩
 refine eo 7 (fun wx Fx=>?_)
 replace E4:=E4.then Fx
 replace h4:=h4.up Fx
 replace A4:=A4.kept Fx
 replace G4:=G4.then Fx
 clear Fx
 go_wp2_with fail
 refine nx_normal ⟨E4,?_⟩
 refine env_done (by kernel_rfl) (fun w5 F5=>?_)
 have D5:=G4.then F5
 have h5:KmAt w5 b { x with line:=2 }:=h4.up F5
 have A5:=A4.kept F5
 clear A4 h4 F5 G4 E4
 obtain ⟨c0,c1,c2,c3,c4,c5,c6,c7,c8,c9⟩:=km_cells h5
 have z:=h5.frozen
 generalize hv:peek s.l 1=v at *
 by_cases hv0:x.c.v≤v
 ·have hn:y = { x with e:=15,line:=0 }:=by rw [← HY.out];unfold Km.next;simp [hl,hv0]
  subst hn
  have g:decide (v≥x.c.v)=true:=by simpa using hv0
  go_wp2_with fail
  go_ret
  exact ⟨rfl,(Ob.set (Ob.set h5 (i:=9) (.int .i64 15)) (i:=6) (.int .i64 0)),(Rar.set (Rar.set A5 hp hq (i:=9) (.int .i64 15)) hp hq (i:=6) (.int .i64 0)),(Fr.setCell' (Fr.setCell' D5 (b:=b) (i:=9) (.int .i64 15) (by simp)) (b:=b) (i:=6) (.int .i64 0) (by simp))⟩
 ·have hn:y = { x with line:=2 }:=by rw [← HY.out];unfold Km.next;simp [hl,hv0]
  subst hn
  have g:decide (v≥x.c.v)=false:=by simpa using hv0
  go_wp2_with fail
  go_ret
  exact ⟨rfl,h5,A5,D5⟩
theorem claim_step2 (x:Km) (hl:x.line=2) (hc:x.c.Ok) (ht:0≤x.t∧x.t≤8) (b p q:Nat) (s:St) (w:World) (h:KmAt w b x) (hA:Rar w p q s) (hp:b≠p) (hq:b≠q) :
  Calls Tryz.prog 171 #[.pointer (some ⟨b,0,none⟩),.pointer (some ⟨p,0,none⟩)] w fun e w'=>e = .returned (.bool (decide ((x.next (x.told s)).line=0)))∧KmAt w' b (x.next (x.told s))∧Rar w' p q (s.store x.pa (claimW x.seq 1))∧Fr [b,p,q] w w':=by
 generalize hy:x.next (x.told s)=y
 have HY:=Lib.hid hy
 clear hy
 obtain ⟨c0,c1,c2,c3,c4,c5,c6,c7,c8,c9⟩:=km_cells h
 have z:=h.frozen
 go_enter Tryz.func171,Tryz.ntmps171
 go_wp2_with fail
 have h0:=h
 have A0:=hA
 have D0:=Fr.refl [b,p,q] w
 clear h hA
 have hw0:=Lib.hid (Eq.refl w)
 refine (Ref.psa_any x.t ht.1 ht.2 _).mono ?_;rintro e _ ⟨rfl,rfl⟩
 rw [show (3:Int)+x.t=x.pa from rfl]
 go_wp2_with fail
 refine (claim_any _ _ _).mono ?_;rintro e _ ⟨rfl,rfl⟩
 go_wp2_with fail
 have A1:=A0
 have h1:=h0
 have D1:=D0
 clear c0 c1 c2 c3 c4 c5 c6 c7 c8 c9 z
 refine (Ref.store_any _ p q s _ _ A1).mono ?_;rintro e w5 ⟨rfl,A5,F5⟩
 have h5:=Ob.kept h1 F5 (by simp;exact ⟨hp,hq⟩)
 have D5:=frSub D1 F5 (by simp)
 clear A1 h1 D1 F5 A0 h0 D0
 obtain ⟨c0,c1,c2,c3,c4,c5,c6,c7,c8,c9⟩:=km_cells h5
 have z:=h5.frozen
 have hn:y = { x with line:=3 }:=by rw [← HY.out];unfold Km.next;simp [hl]
 subst hn
 go_wp2_with fail
 go_ret
 exact ⟨rfl,(Ob.set h5 (i:=6) (.int .i64 3)),(Rar.set A5 hp hq (i:=6) (.int .i64 3)),(Fr.setCell' D5 (b:=b) (i:=6) (.int .i64 3) (by simp))⟩
theorem claim_step3 (x:Km) (hl:x.line=3) (hc:x.c.Ok) (ht:0≤x.t∧x.t≤8) (b p q:Nat) (s:St) (w:World) (h:KmAt w b x) (hA:Rar w p q s) (hp:b≠p) (hq:b≠q) :
  Calls Tryz.prog 171 #[.pointer (some ⟨b,0,none⟩),.pointer (some ⟨p,0,none⟩)] w fun e w'=>e = .returned (.bool (decide ((x.next (peek s.l 1)).line=0)))∧KmAt w' b (x.next (peek s.l 1))∧Rar w' p q (s.add 1 1)∧Fr [b,p,q] w w':=by
 generalize hy:x.next (peek s.l 1)=y
 have HY:=Lib.hid hy
 clear hy
 obtain ⟨c0,c1,c2,c3,c4,c5,c6,c7,c8,c9⟩:=km_cells h
 have z:=h.frozen
 go_enter Tryz.func171,Tryz.ntmps171
 go_wp2_with fail
 have h0:=h
 have A0:=hA
 have D0:=Fr.refl [b,p,q] w
 clear h hA
 have hw0:=Lib.hid (Eq.refl w)
 refine (Ref.psa_any x.t ht.1 ht.2 _).mono ?_;rintro e _ ⟨rfl,rfl⟩
 rw [show (3:Int)+x.t=x.pa from rfl]
 go_wp2_with fail
 have A1:=A0
 have h1:=h0
 have D1:=D0
 clear c0 c1 c2 c3 c4 c5 c6 c7 c8 c9 z
 refine (Ref.add_any _ p q s 1 1 A1).mono ?_;rintro e w5 ⟨rfl,A5,F5⟩
 have h5:=Ob.kept h1 F5 (by simp;exact ⟨hp,hq⟩)
 have D5:=frSub D1 F5 (by simp)
 clear A1 h1 D1 F5 A0 h0 D0
 obtain ⟨c0,c1,c2,c3,c4,c5,c6,c7,c8,c9⟩:=km_cells h5
 have z:=h5.frozen
 have hn:y = { x with v:=peek s.l 1,line:=4 }:=by rw [← HY.out];unfold Km.next;simp [hl]
 subst hn
 go_wp2_with fail
 go_ret
 exact ⟨rfl,(Ob.set (Ob.set h5 (i:=7) (.int .i64 (peek s.l 1))) (i:=6) (.int .i64 4)),(Rar.set (Rar.set A5 hp hq (i:=7) (.int .i64 (peek s.l 1))) hp hq (i:=6) (.int .i64 4)),(Fr.setCell' (Fr.setCell' D5 (b:=b) (i:=7) (.int .i64 (peek s.l 1)) (by simp)) (b:=b) (i:=6) (.int .i64 4) (by simp))⟩
theorem claim_step4 (x:Km) (hl:x.line=4) (hc:x.c.Ok) (ht:0≤x.t∧x.t≤8) (b p q:Nat) (s:St) (w:World) (h:KmAt w b x) (hA:Rar w p q s) (hp:b≠p) (hq:b≠q) :
  Calls Tryz.prog 171 #[.pointer (some ⟨b,0,none⟩),.pointer (some ⟨p,0,none⟩)] w fun e w'=>e = .returned (.bool (decide ((x.next (x.told s)).line=0)))∧KmAt w' b (x.next (x.told s))∧Rar w' p q (s.swap x.pa (claimW x.seq 1) (claimW x.seq (wrap64 (x.v+2))))∧Fr [b,p,q] w w':=by
 generalize hy:x.next (x.told s)=y
 have HY:=Lib.hid hy
 clear hy
 obtain ⟨c0,c1,c2,c3,c4,c5,c6,c7,c8,c9⟩:=km_cells h
 have z:=h.frozen
 go_enter Tryz.func171,Tryz.ntmps171
 go_wp2_with fail
 have h0:=h
 have A0:=hA
 have D0:=Fr.refl [b,p,q] w
 clear h hA
 have hw0:=Lib.hid (Eq.refl w)
 refine (Ref.psa_any x.t ht.1 ht.2 _).mono ?_;rintro e _ ⟨rfl,rfl⟩
 rw [show (3:Int)+x.t=x.pa from rfl]
 go_wp2_with fail
 have A1:=A0
 have h1:=h0
 have D1:=D0
 clear c0 c1 c2 c3 c4 c5 c6 c7 c8 c9 z
 refine wp_region_env (by kernel_rfl) [p,q] (fun w2 F2=>?_)
 refine ep [true,true,true,true,true,true,true,true,true,true,true,true,true,true,true,true,true,false] 1 (F2.mono) ?_
 apply Exists.intro
 refine ⟨fun wf Ff=>?_,?_⟩
 ·have hf:KmAt wf b x:=Ob.kept h1 Ff (by simp;exact ⟨hp,hq⟩)
  obtain ⟨-,-,-,-,-,c5,-,c7,-,-⟩:=km_cells hf
  have k5:=In.cell c5
  have k7:=In.cell c7
  clear hf c5 c7
  simp only [sel]
  repeat (go_big_quiet_step ((first | (go_at_call 176;exact Calls.in_same (claim_any _ _ _)))))
  exact wpQuiet_nil rfl
 refine eo 17 (fun w3 F3=>?_)
 have E3:=F2.trans F3
 have A3:=A1.kept E3
 have h3:=Ob.up h1 E3
 have G3:=frSub D1 E3 (by simp)
 clear F2 F3 A1 h1 D1 A0 h0 D0
 go_wp2_with fail
 refine (Ref.swap_any _ p q s _ _ _ A3).mono ?_;rintro e w4 ⟨rfl,A4,F4⟩
 have E4:=(E3.mono (T:=[p,q]) (by simp)).trans F4
 have h4:=h3.kept F4 (by simp;exact ⟨hp,hq⟩)
 have G4:=frSub G3 F4 (by simp)
 clear A3 h3 F4 G3 E3
 go_wp2_with fail
 refine nx_normal ⟨E4,?_⟩
 refine env_done (by kernel_rfl) (fun w5 F5=>?_)
 have D5:=G4.then F5
 have h5:KmAt w5 b x:=h4.up F5
 have A5:=A4.kept F5
 clear A4 h4 F5 G4 E4
 obtain ⟨c0,c1,c2,c3,c4,c5,c6,c7,c8,c9⟩:=km_cells h5
 have z:=h5.frozen
 have hn:y = { x with line:=5 }:=by rw [← HY.out];unfold Km.next;simp [hl]
 subst hn
 go_wp2_with fail
 go_ret
 exact ⟨rfl,(Ob.set h5 (i:=6) (.int .i64 5)),(Rar.set A5 hp hq (i:=6) (.int .i64 5)),(Fr.setCell' D5 (b:=b) (i:=6) (.int .i64 5) (by simp))⟩
theorem claim_step5 (x:Km) (hl:x.line=5) (hc:x.c.Ok) (ht:0≤x.t∧x.t≤8) (b p q:Nat) (s:St) (w:World) (h:KmAt w b x) (hA:Rar w p q s) (hp:b≠p) (hq:b≠q) :
  Calls Tryz.prog 171 #[.pointer (some ⟨b,0,none⟩),.pointer (some ⟨p,0,none⟩)] w fun e w'=>e = .returned (.bool (decide ((x.next (peek s.l x.pa)).line=0)))∧KmAt w' b (x.next (peek s.l x.pa))∧Rar w' p q (s.load x.pa)∧Fr [b,p,q] w w':=by
 generalize hy:x.next (peek s.l x.pa)=y
 have HY:=Lib.hid hy
 clear hy
 obtain ⟨c0,c1,c2,c3,c4,c5,c6,c7,c8,c9⟩:=km_cells h
 have z:=h.frozen
 go_enter Tryz.func171,Tryz.ntmps171
 go_wp2_with fail
 have h0:=h
 have A0:=hA
 have D0:=Fr.refl [b,p,q] w
 clear h hA
 have hw0:=Lib.hid (Eq.refl w)
 refine (Ref.psa_any x.t ht.1 ht.2 _).mono ?_;rintro e _ ⟨rfl,rfl⟩
 rw [show (3:Int)+x.t=x.pa from rfl]
 go_wp2_with fail
 have A1:=A0
 have h1:=h0
 have D1:=D0
 clear c0 c1 c2 c3 c4 c5 c6 c7 c8 c9 z
 refine (Ref.load_any _ p q s _ A1).mono ?_;rintro e w5 ⟨rfl,A5,F5⟩
 have h5:=Ob.kept h1 F5 (by simp;exact ⟨hp,hq⟩)
 have D5:=frSub D1 F5 (by simp)
 clear A1 h1 D1 F5 A0 h0 D0
 obtain ⟨c0,c1,c2,c3,c4,c5,c6,c7,c8,c9⟩:=km_cells h5
 have z:=h5.frozen
 go_wp2_with fail
 refine (part_any _ _).mono ?_;rintro e _ ⟨rfl,rfl⟩
 have hpb:wrap64 (partW (peek s.l x.pa) - 2)=partW (peek s.l x.pa) - 2:=by unfold partW;exact w64 (by omega) (by omega)
 have hn:y = { x with version:=partW (peek s.l x.pa) - 2,line:=0 }:=by rw [← HY.out];unfold Km.next;simp [hl]
 subst hn
 go_wp2_with fail
 go_ret
 exact ⟨rfl,(Ob.set (Ob.set h5 (i:=8) (.int .i64 (partW (peek s.l x.pa) - 2))) (i:=6) (.int .i64 0)),(Rar.set (Rar.set A5 hp hq (i:=8) (.int .i64 (partW (peek s.l x.pa) - 2))) hp hq (i:=6) (.int .i64 0)),(Fr.setCell' (Fr.setCell' D5 (b:=b) (i:=8) (.int .i64 (partW (peek s.l x.pa) - 2)) (by simp)) (b:=b) (i:=6) (.int .i64 0) (by simp))⟩
theorem claim_step0 (x:Km) (hl:x.live=false) (hc:x.c.Ok) (ht:0≤x.t∧x.t≤8) (b p q:Nat) (w:World) (h:KmAt w b x) :
  Calls Tryz.prog 171 #[.pointer (some ⟨b,0,none⟩),.pointer (some ⟨p,0,none⟩)] w fun e w'=>e = .returned (.bool (decide (x.line=0)))∧Fr [] w w':=by
 obtain ⟨c0,c1,c2,c3,c4,c5,c6,c7,c8,c9⟩:=km_cells h
 unfold Km.live at hl
 have l1:x.line≠1:=by intro h;rw [h] at hl;simp at hl
 have l2:x.line≠2:=by intro h;rw [h] at hl;simp at hl
 have l3:x.line≠3:=by intro h;rw [h] at hl;simp at hl
 have l4:x.line≠4:=by intro h;rw [h] at hl;simp at hl
 have l5:x.line≠5:=by intro h;rw [h] at hl;simp at hl
 clear hl
 go_enter Tryz.func171,Tryz.ntmps171
 go_wp2_with fail
 refine (Ref.psa_any x.t ht.1 ht.2 _).mono ?_;rintro e _ ⟨rfl,rfl⟩
 rw [show (3:Int)+x.t=x.pa from rfl]
 go_wp2_with fail
 go_ret
 exact ⟨rfl,Fr.refl _ _⟩
theorem claim_step (x:Km) (hc:x.c.Ok) (ht:0≤x.t∧x.t≤8) (b p q:Nat) (s:St) (w:World) (h:KmAt w b x) (hA:Rar w p q s) (hp:b≠p) (hq:b≠q) :
  Calls Tryz.prog 171 #[.pointer (some ⟨b,0,none⟩),.pointer (some ⟨p,0,none⟩)] w fun e w'=>e = .returned (.bool (decide ((x.step s).1.line=0)))∧KmAt w' b (x.step s).1∧Rar w' p q (x.step s).2∧Fr [b,p,q] w w':=by
 unfold Km.step
 cases hl:x.live with
 | false=>exact (claim_step0 x hl hc ht b p q w h).mono (by rintro e w' ⟨rfl,F⟩;exact ⟨rfl,Ob.up h F,hA.kept F,F.mono⟩)
 | true =>
  unfold Km.live at hl
  have hl':x.line=1∨x.line=2∨x.line=3∨x.line=4∨x.line=5:=by
   simp only [Bool.and_eq_true,Bool.or_eq_true,decide_eq_true_eq] at hl;omega
  rw [if_pos rfl]
  rcases hl' with l | l | l | l | l
  ·rw [show x.act s=s.load 1 by unfold Km.act;simp [l],show x.told s=peek s.l 1 by unfold Km.told;simp [l]];exact claim_step1 x l hc ht b p q s w h hA hp hq
  ·rw [show x.act s=s.store x.pa (claimW x.seq 1) by unfold Km.act;simp [l]];exact claim_step2 x l hc ht b p q s w h hA hp hq
  ·rw [show x.act s=s.add 1 1 by unfold Km.act;simp [l],show x.told s=peek s.l 1 by unfold Km.told;simp [l]];exact claim_step3 x l hc ht b p q s w h hA hp hq
  ·rw [show x.act s=s.swap x.pa (claimW x.seq 1) (claimW x.seq (wrap64 (x.v+2))) by unfold Km.act;simp [l]];exact claim_step4 x l hc ht b p q s w h hA hp hq
  ·rw [show x.act s=s.load x.pa by unfold Km.act;simp [l],show x.told s=peek s.l x.pa by unfold Km.told;simp [l]];exact claim_step5 x l hc ht b p q s w h hA hp hq
structure Cl where
 c:Cf
 chunk:Int
 key:Int
 data:Int
 line:Int
 i:Int
 g:Int
 version:Int
def Cl.cells (x:Cl):Array Value:=#[.int .i64 x.c.t,.int .i64 x.c.c,.int .i64 x.c.wd,.int .i64 x.c.v,.int .i64 x.chunk,.int .i64 x.key,.int .i64 x.data,.int .i64 x.line,.int .i64 x.i,.int .i64 x.g,.int .i64 x.version]
def ClAt (w:World) (b:Nat) (x:Cl):Prop:=Ob w b 233 x.cells
theorem cl_cells {w:World} {b:Nat} {x:Cl} (h:ClAt w b x):w.cell? ⟨b,0,none⟩=some (.int .i64 x.c.t)∧w.cell? ⟨b,1,none⟩=some (.int .i64 x.c.c)∧w.cell? ⟨b,2,none⟩=some (.int .i64 x.c.wd)∧w.cell? ⟨b,3,none⟩=some (.int .i64 x.c.v)∧w.cell? ⟨b,4,none⟩=some (.int .i64 x.chunk)∧w.cell? ⟨b,5,none⟩=some (.int .i64 x.key)∧w.cell? ⟨b,6,none⟩=some (.int .i64 x.data)∧w.cell? ⟨b,7,none⟩=some (.int .i64 x.line)∧w.cell? ⟨b,8,none⟩=some (.int .i64 x.i)∧w.cell? ⟨b,9,none⟩=some (.int .i64 x.g)∧w.cell? ⟨b,10,none⟩=some (.int .i64 x.version) :=
 ⟨h.cell rfl,h.cell rfl,h.cell rfl,h.cell rfl,h.cell rfl,h.cell rfl,h.cell rfl,h.cell rfl,h.cell rfl,h.cell rfl,h.cell rfl⟩
def Cl.new (c:Cf) (chunk key data:Int):Cl:=⟨c,chunk,key,data,1,-1,0,-1⟩
def Cl.sa (x:Cl):Int:=stAt x.chunk x.i
def Cl.live (x:Cl):Bool:=decide (1≤x.line) && decide (x.line≤8)
def Cl.act (x:Cl) (s:St):St :=
 if x.line=1 then s.load (wrap64 (x.chunk+6)) else if x.line=2 then s.add (wrap64 (x.chunk+1)) 1 else if x.line=3 then s.store (wrap64 (x.sa+1)) x.key
 else if x.line=4 then s.store (wrap64 (x.sa+2)) x.data else if x.line=5 then s.swap x.sa 0 1 else if x.line=6 then s.load 1 else if x.line=7 then s.swap x.sa 1 (stateW x.g) else s.load x.sa
def Cl.told (x:Cl) (s:St):Int :=
 if x.line=1 then peek s.l (wrap64 (x.chunk+6)) else if x.line=2 then peek s.l (wrap64 (x.chunk+1)) else if x.line=5 then (if s.can x.sa 0 then 1 else 0) else if x.line=6 then peek s.l 1 else peek s.l x.sa
def Cl.next (x:Cl) (v:Int):Cl :=
 if x.line=1 then (if v=0 then { x with line:=2 } else { x with line:=0 })
 else if x.line=2 then (if 0≤v∧v<x.c.c then { x with line:=3,i:=v } else { x with line:=0 })
 else if x.line=3 then { x with line:=4 } else if x.line=4 then { x with line:=5 }
 else if x.line=5 then (if v=1 then { x with line:=6 } else { x with line:=0 })
 else if x.line=6 then { x with g:=v,line:=7 } else if x.line=7 then { x with line:=8 } else { x with version:=verW v,line:=0 }
def Cl.step (x:Cl) (s:St):Cl×St:=if x.live=true then (x.next (x.told s),x.act s) else (x,s)
theorem newCell_any (c:Cf) (chunk key data:Int) (w:World):Calls Tryz.prog 169 #[c.val,.int .i64 chunk,.int .i64 key,.int .i64 data] w fun e w'=>∃ b,e = .returned (.pointer (some ⟨b,0,none⟩))∧w.heap.size≤b∧ClAt w' b (Cl.new c chunk key data)∧Fr [] w w':=by
 unfold Cf.val
 have F0:=(Fr.refl [] w).alloc (.cells #[.int .i64 c.t,.int .i64 c.c,.int .i64 c.wd,.int .i64 c.v] 23)
 obtain ⟨c0,c1,c2,c3⟩:=Pl.cells4 (Go.heap_alloc_new w (.cells #[.int .i64 c.t,.int .i64 c.c,.int .i64 c.wd,.int .i64 c.v] 23))
 go_enter Tryz.func169,Tryz.ntmps169
 go_wp2
 go_ret
 exact ⟨_,rfl,by omega,Ob.newAt (sizeA _ _) _ _,F0.alloc _⟩
theorem cell_step1 (x:Cl) (hl:x.line=1) (hc:x.c.Ok) (b p q:Nat) (s:St) (w:World) (h:ClAt w b x) (hA:Rar w p q s) (hp:b≠p) (hq:b≠q) :
  Calls Tryz.prog 166 #[.pointer (some ⟨b,0,none⟩),.pointer (some ⟨p,0,none⟩)] w fun e w'=>e = .returned (.bool (decide ((x.next (peek s.l (wrap64 (x.chunk+6)))).line=0)))∧ClAt w' b (x.next (peek s.l (wrap64 (x.chunk+6))))∧Rar w' p q (s.load (wrap64 (x.chunk+6)))∧Fr [b,p,q] w w':=by
 generalize hy:x.next (peek s.l (wrap64 (x.chunk+6)))=y
 have HY:=Lib.hid hy
 clear hy
 obtain ⟨c0,c1,c2,c3,c4,c5,c6,c7,c8,c9,c10⟩:=cl_cells h
 have z:=h.frozen
 go_enter Tryz.func166,Tryz.ntmps166
 go_wp2_with fail
 have k4:=In.cell c4
 have k8:=In.cell c8
 clear c0 c1 c2 c3 c4 c5 c6 c7 c8 c9 c10 z
 refine wi ?_
 repeat (go_big_quiet_step ((go_at_call 29;exact Calls.in_same (stAt_any _ _ _))))
 refine wpQuiet_nil ?_
 intro w0 F0
 rw [show stAt x.chunk x.i=x.sa from rfl]
 have h0:ClAt w0 b x:=Ob.up h F0
 have A0:=hA.kept F0
 have D0:Fr [b,p,q] w w0:=F0.mono
 clear k4 k8 h hA F0
 obtain ⟨c0,c1,c2,c3,c4,c5,c6,c7,c8,c9,c10⟩:=cl_cells h0
 have z:=h0.frozen
 go_wp2_with fail
 have A1:=(Rar.set A0 hp hq (i:=7) (.int .i64 2))
 have h1:ClAt _ b { x with line:=2 }:=(Ob.set h0 (i:=7) (.int .i64 2))
 have D1:=(Fr.setCell' D0 (b:=b) (i:=7) (.int .i64 2) (by simp))
 clear c0 c1 c2 c3 c4 c5 c6 c7 c8 c9 c10 z
 generalize (w0.setCell ⟨b,7,none⟩ (.int .i64 2))=w1 at *
 refine (Ref.load_any _ p q s _ A1).mono ?_;rintro e w5 ⟨rfl,A5,F5⟩
 have h5:=Ob.kept h1 F5 (by simp;exact ⟨hp,hq⟩)
 have D5:=frSub D1 F5 (by simp)
 clear A1 h1 D1 F5 A0 h0 D0
 obtain ⟨c0,c1,c2,c3,c4,c5,c6,c7,c8,c9,c10⟩:=cl_cells h5
 have z:=h5.frozen
 generalize hv:peek s.l (wrap64 (x.chunk+6))=v at *
 by_cases hv0:v=0
 ·have hn:y = { x with line:=2 }:=by rw [← HY.out];unfold Cl.next;simp [hl,hv0]
  subst hn
  go_wp2_with fail
  go_ret
  exact ⟨rfl,h5,A5,D5⟩
 ·have hn:y = { x with line:=0 }:=by rw [← HY.out];unfold Cl.next;simp [hl,hv0]
  subst hn
  go_wp2_with fail
  go_ret
  exact ⟨rfl,(Ob.set h5 (i:=7) (.int .i64 0)),(Rar.set A5 hp hq (i:=7) (.int .i64 0)),(Fr.setCell' D5 (b:=b) (i:=7) (.int .i64 0) (by simp))⟩
theorem cell_step2 (x:Cl) (hl:x.line=2) (hc:x.c.Ok) (b p q:Nat) (s:St) (w:World) (h:ClAt w b x) (hA:Rar w p q s) (hp:b≠p) (hq:b≠q) :
  Calls Tryz.prog 166 #[.pointer (some ⟨b,0,none⟩),.pointer (some ⟨p,0,none⟩)] w fun e w'=>e = .returned (.bool (decide ((x.next (peek s.l (wrap64 (x.chunk+1)))).line=0)))∧ClAt w' b (x.next (peek s.l (wrap64 (x.chunk+1))))∧Rar w' p q (s.add (wrap64 (x.chunk+1)) 1)∧Fr [b,p,q] w w':=by
 generalize hy:x.next (peek s.l (wrap64 (x.chunk+1)))=y
 have HY:=Lib.hid hy
 clear hy
 obtain ⟨c0,c1,c2,c3,c4,c5,c6,c7,c8,c9,c10⟩:=cl_cells h
 have z:=h.frozen
 go_enter Tryz.func166,Tryz.ntmps166
 go_wp2_with fail
 have k4:=In.cell c4
 have k8:=In.cell c8
 clear c0 c1 c2 c3 c4 c5 c6 c7 c8 c9 c10 z
 refine wi ?_
 repeat (go_big_quiet_step ((go_at_call 29;exact Calls.in_same (stAt_any _ _ _))))
 refine wpQuiet_nil ?_
 intro w0 F0
 rw [show stAt x.chunk x.i=x.sa from rfl]
 have h0:ClAt w0 b x:=Ob.up h F0
 have A0:=hA.kept F0
 have D0:Fr [b,p,q] w w0:=F0.mono
 clear k4 k8 h hA F0
 obtain ⟨c0,c1,c2,c3,c4,c5,c6,c7,c8,c9,c10⟩:=cl_cells h0
 have z:=h0.frozen
 go_wp2_with fail
 have A1:=(Rar.set A0 hp hq (i:=7) (.int .i64 3))
 have h1:ClAt _ b { x with line:=3 }:=(Ob.set h0 (i:=7) (.int .i64 3))
 have D1:=(Fr.setCell' D0 (b:=b) (i:=7) (.int .i64 3) (by simp))
 clear c0 c1 c2 c3 c4 c5 c6 c7 c8 c9 c10 z
 generalize (w0.setCell ⟨b,7,none⟩ (.int .i64 3))=w1 at *
 refine (Ref.add_any _ p q s _ 1 A1).mono ?_;rintro e w5 ⟨rfl,A5,F5⟩
 have h5:=Ob.kept h1 F5 (by simp;exact ⟨hp,hq⟩)
 have D5:=frSub D1 F5 (by simp)
 clear A1 h1 D1 F5 A0 h0 D0
 obtain ⟨c0,c1,c2,c3,c4,c5,c6,c7,c8,c9,c10⟩:=cl_cells h5
 have z:=h5.frozen
 generalize hv:peek s.l (wrap64 (x.chunk+1))=v at *
 by_cases hv0:v<0
 ·have hn:y = { x with line:=0 }:=by rw [← HY.out];unfold Cl.next;simp [hl,hv0];try omega
  subst hn
  go_wp2_with fail
  go_ret
  exact ⟨rfl,(Ob.set h5 (i:=7) (.int .i64 0)),(Rar.set A5 hp hq (i:=7) (.int .i64 0)),(Fr.setCell' D5 (b:=b) (i:=7) (.int .i64 0) (by simp))⟩
 have hv2:0≤v:=by omega
 by_cases hv1:x.c.c≤v
 ·have hn:y = { x with line:=0 }:=by rw [← HY.out];unfold Cl.next;simp [hl,hv0];try omega
  subst hn
  go_wp2_with fail
  go_ret
  exact ⟨rfl,(Ob.set h5 (i:=7) (.int .i64 0)),(Rar.set A5 hp hq (i:=7) (.int .i64 0)),(Fr.setCell' D5 (b:=b) (i:=7) (.int .i64 0) (by simp))⟩
 have hv3:v<x.c.c:=by omega
 have hn:y = { x with line:=3,i:=v }:=by rw [← HY.out];unfold Cl.next;simp [hl,hv2,hv3]
 subst hn
 go_wp2_with fail
 go_ret
 exact ⟨rfl,(Ob.set h5 (i:=8) (.int .i64 v)),(Rar.set A5 hp hq (i:=8) (.int .i64 v)),(Fr.setCell' D5 (b:=b) (i:=8) (.int .i64 v) (by simp))⟩
theorem cell_step3 (x:Cl) (hl:x.line=3) (hc:x.c.Ok) (b p q:Nat) (s:St) (w:World) (h:ClAt w b x) (hA:Rar w p q s) (hp:b≠p) (hq:b≠q) :
  Calls Tryz.prog 166 #[.pointer (some ⟨b,0,none⟩),.pointer (some ⟨p,0,none⟩)] w fun e w'=>e = .returned (.bool (decide ((x.next (x.told s)).line=0)))∧ClAt w' b (x.next (x.told s))∧Rar w' p q (s.store (wrap64 (x.sa+1)) x.key)∧Fr [b,p,q] w w':=by
 generalize hy:x.next (x.told s)=y
 have HY:=Lib.hid hy
 clear hy
 obtain ⟨c0,c1,c2,c3,c4,c5,c6,c7,c8,c9,c10⟩:=cl_cells h
 have z:=h.frozen
 go_enter Tryz.func166,Tryz.ntmps166
 go_wp2_with fail
 have k4:=In.cell c4
 have k8:=In.cell c8
 clear c0 c1 c2 c3 c4 c5 c6 c7 c8 c9 c10 z
 refine wi ?_
 repeat (go_big_quiet_step ((go_at_call 29;exact Calls.in_same (stAt_any _ _ _))))
 refine wpQuiet_nil ?_
 intro w0 F0
 rw [show stAt x.chunk x.i=x.sa from rfl]
 have h0:ClAt w0 b x:=Ob.up h F0
 have A0:=hA.kept F0
 have D0:Fr [b,p,q] w w0:=F0.mono
 clear k4 k8 h hA F0
 obtain ⟨c0,c1,c2,c3,c4,c5,c6,c7,c8,c9,c10⟩:=cl_cells h0
 have z:=h0.frozen
 go_wp2_with fail
 have A1:=A0
 have h1:=h0
 have D1:=D0
 clear c0 c1 c2 c3 c4 c5 c6 c7 c8 c9 c10 z
 refine (Ref.store_any _ p q s _ _ A1).mono ?_;rintro e w5 ⟨rfl,A5,F5⟩
 have h5:=Ob.kept h1 F5 (by simp;exact ⟨hp,hq⟩)
 have D5:=frSub D1 F5 (by simp)
 clear A1 h1 D1 F5 A0 h0 D0
 obtain ⟨c0,c1,c2,c3,c4,c5,c6,c7,c8,c9,c10⟩:=cl_cells h5
 have z:=h5.frozen
 have hn:y = { x with line:=4 }:=by rw [← HY.out];unfold Cl.next;simp [hl]
 subst hn
 go_wp2_with fail
 go_ret
 exact ⟨rfl,(Ob.set h5 (i:=7) (.int .i64 4)),(Rar.set A5 hp hq (i:=7) (.int .i64 4)),(Fr.setCell' D5 (b:=b) (i:=7) (.int .i64 4) (by simp))⟩
theorem cell_step4 (x:Cl) (hl:x.line=4) (hc:x.c.Ok) (b p q:Nat) (s:St) (w:World) (h:ClAt w b x) (hA:Rar w p q s) (hp:b≠p) (hq:b≠q) :
  Calls Tryz.prog 166 #[.pointer (some ⟨b,0,none⟩),.pointer (some ⟨p,0,none⟩)] w fun e w'=>e = .returned (.bool (decide ((x.next (x.told s)).line=0)))∧ClAt w' b (x.next (x.told s))∧Rar w' p q (s.store (wrap64 (x.sa+2)) x.data)∧Fr [b,p,q] w w':=by
 generalize hy:x.next (x.told s)=y
 have HY:=Lib.hid hy
 clear hy
 obtain ⟨c0,c1,c2,c3,c4,c5,c6,c7,c8,c9,c10⟩:=cl_cells h
 have z:=h.frozen
 go_enter Tryz.func166,Tryz.ntmps166
 go_wp2_with fail
 have k4:=In.cell c4
 have k8:=In.cell c8
 clear c0 c1 c2 c3 c4 c5 c6 c7 c8 c9 c10 z
 refine wi ?_
 repeat (go_big_quiet_step ((go_at_call 29;exact Calls.in_same (stAt_any _ _ _))))
 refine wpQuiet_nil ?_
 intro w0 F0
 rw [show stAt x.chunk x.i=x.sa from rfl]
 have h0:ClAt w0 b x:=Ob.up h F0
 have A0:=hA.kept F0
 have D0:Fr [b,p,q] w w0:=F0.mono
 clear k4 k8 h hA F0
 obtain ⟨c0,c1,c2,c3,c4,c5,c6,c7,c8,c9,c10⟩:=cl_cells h0
 have z:=h0.frozen
 go_wp2_with fail
 have A1:=A0
 have h1:=h0
 have D1:=D0
 clear c0 c1 c2 c3 c4 c5 c6 c7 c8 c9 c10 z
 refine (Ref.store_any _ p q s _ _ A1).mono ?_;rintro e w5 ⟨rfl,A5,F5⟩
 have h5:=Ob.kept h1 F5 (by simp;exact ⟨hp,hq⟩)
 have D5:=frSub D1 F5 (by simp)
 clear A1 h1 D1 F5 A0 h0 D0
 obtain ⟨c0,c1,c2,c3,c4,c5,c6,c7,c8,c9,c10⟩:=cl_cells h5
 have z:=h5.frozen
 have hn:y = { x with line:=5 }:=by rw [← HY.out];unfold Cl.next;simp [hl]
 subst hn
 go_wp2_with fail
 go_ret
 exact ⟨rfl,(Ob.set h5 (i:=7) (.int .i64 5)),(Rar.set A5 hp hq (i:=7) (.int .i64 5)),(Fr.setCell' D5 (b:=b) (i:=7) (.int .i64 5) (by simp))⟩
theorem cell_step5 (x:Cl) (hl:x.line=5) (hc:x.c.Ok) (b p q:Nat) (s:St) (w:World) (h:ClAt w b x) (hA:Rar w p q s) (hp:b≠p) (hq:b≠q) :
  Calls Tryz.prog 166 #[.pointer (some ⟨b,0,none⟩),.pointer (some ⟨p,0,none⟩)] w fun e w'=>e = .returned (.bool (decide ((x.next (if s.can x.sa 0 then 1 else 0)).line=0)))∧ClAt w' b (x.next (if s.can x.sa 0 then 1 else 0))∧Rar w' p q (s.swap x.sa 0 1)∧Fr [b,p,q] w w':=by
 generalize hy:x.next (if s.can x.sa 0 then 1 else 0)=y
 have HY:=Lib.hid hy
 clear hy
 obtain ⟨c0,c1,c2,c3,c4,c5,c6,c7,c8,c9,c10⟩:=cl_cells h
 have z:=h.frozen
 go_enter Tryz.func166,Tryz.ntmps166
 go_wp2_with fail
 have k4:=In.cell c4
 have k8:=In.cell c8
 clear c0 c1 c2 c3 c4 c5 c6 c7 c8 c9 c10 z
 refine wi ?_
 repeat (go_big_quiet_step ((go_at_call 29;exact Calls.in_same (stAt_any _ _ _))))
 refine wpQuiet_nil ?_
 intro w0 F0
 rw [show stAt x.chunk x.i=x.sa from rfl]
 have h0:ClAt w0 b x:=Ob.up h F0
 have A0:=hA.kept F0
 have D0:Fr [b,p,q] w w0:=F0.mono
 clear k4 k8 h hA F0
 obtain ⟨c0,c1,c2,c3,c4,c5,c6,c7,c8,c9,c10⟩:=cl_cells h0
 have z:=h0.frozen
 go_wp2_with fail
 have A1:=(Rar.set A0 hp hq (i:=7) (.int .i64 6))
 have h1:ClAt _ b { x with line:=6 }:=(Ob.set h0 (i:=7) (.int .i64 6))
 have D1:=(Fr.setCell' D0 (b:=b) (i:=7) (.int .i64 6) (by simp))
 clear c0 c1 c2 c3 c4 c5 c6 c7 c8 c9 c10 z
 generalize (w0.setCell ⟨b,7,none⟩ (.int .i64 6))=w1 at *
 refine (Ref.swap_any _ p q s _ 0 1 A1).mono ?_;rintro e w5 ⟨rfl,A5,F5⟩
 have h5:=Ob.kept h1 F5 (by simp;exact ⟨hp,hq⟩)
 have D5:=frSub D1 F5 (by simp)
 clear A1 h1 D1 F5 A0 h0 D0
 obtain ⟨c0,c1,c2,c3,c4,c5,c6,c7,c8,c9,c10⟩:=cl_cells h5
 have z:=h5.frozen
 cases hv:s.can x.sa 0
 ·have hn:y = { x with line:=0 }:=by rw [← HY.out];unfold Cl.next;simp [hl,hv]
  subst hn
  go_wp2_with fail
  go_ret
  exact ⟨rfl,(Ob.set h5 (i:=7) (.int .i64 0)),(Rar.set A5 hp hq (i:=7) (.int .i64 0)),(Fr.setCell' D5 (b:=b) (i:=7) (.int .i64 0) (by simp))⟩
 ·have hn:y = { x with line:=6 }:=by rw [← HY.out];unfold Cl.next;simp [hl,hv]
  subst hn
  go_wp2_with fail
  go_ret
  exact ⟨rfl,h5,A5,D5⟩
theorem cell_step6 (x:Cl) (hl:x.line=6) (hc:x.c.Ok) (b p q:Nat) (s:St) (w:World) (h:ClAt w b x) (hA:Rar w p q s) (hp:b≠p) (hq:b≠q) :
  Calls Tryz.prog 166 #[.pointer (some ⟨b,0,none⟩),.pointer (some ⟨p,0,none⟩)] w fun e w'=>e = .returned (.bool (decide ((x.next (peek s.l 1)).line=0)))∧ClAt w' b (x.next (peek s.l 1))∧Rar w' p q (s.load 1)∧Fr [b,p,q] w w':=by
 generalize hy:x.next (peek s.l 1)=y
 have HY:=Lib.hid hy
 clear hy
 obtain ⟨c0,c1,c2,c3,c4,c5,c6,c7,c8,c9,c10⟩:=cl_cells h
 have z:=h.frozen
 go_enter Tryz.func166,Tryz.ntmps166
 go_wp2_with fail
 have k4:=In.cell c4
 have k8:=In.cell c8
 clear c0 c1 c2 c3 c4 c5 c6 c7 c8 c9 c10 z
 refine wi ?_
 repeat (go_big_quiet_step ((go_at_call 29;exact Calls.in_same (stAt_any _ _ _))))
 refine wpQuiet_nil ?_
 intro w0 F0
 rw [show stAt x.chunk x.i=x.sa from rfl]
 have h0:ClAt w0 b x:=Ob.up h F0
 have A0:=hA.kept F0
 have D0:Fr [b,p,q] w w0:=F0.mono
 clear k4 k8 h hA F0
 obtain ⟨c0,c1,c2,c3,c4,c5,c6,c7,c8,c9,c10⟩:=cl_cells h0
 have z:=h0.frozen
 go_wp2_with fail
 have A1:=A0
 have h1:=h0
 have D1:=D0
 clear c0 c1 c2 c3 c4 c5 c6 c7 c8 c9 c10 z
 refine (Ref.load_any _ p q s 1 A1).mono ?_;rintro e w5 ⟨rfl,A5,F5⟩
 have h5:=Ob.kept h1 F5 (by simp;exact ⟨hp,hq⟩)
 have D5:=frSub D1 F5 (by simp)
 clear A1 h1 D1 F5 A0 h0 D0
 obtain ⟨c0,c1,c2,c3,c4,c5,c6,c7,c8,c9,c10⟩:=cl_cells h5
 have z:=h5.frozen
 have hn:y = { x with g:=peek s.l 1,line:=7 }:=by rw [← HY.out];unfold Cl.next;simp [hl]
 subst hn
 go_wp2_with fail
 go_ret
 exact ⟨rfl,(Ob.set (Ob.set h5 (i:=9) (.int .i64 (peek s.l 1))) (i:=7) (.int .i64 7)),(Rar.set (Rar.set A5 hp hq (i:=9) (.int .i64 (peek s.l 1))) hp hq (i:=7) (.int .i64 7)),(Fr.setCell' (Fr.setCell' D5 (b:=b) (i:=9) (.int .i64 (peek s.l 1)) (by simp)) (b:=b) (i:=7) (.int .i64 7) (by simp))⟩
theorem cell_step7 (x:Cl) (hl:x.line=7) (hc:x.c.Ok) (b p q:Nat) (s:St) (w:World) (h:ClAt w b x) (hA:Rar w p q s) (hp:b≠p) (hq:b≠q) :
  Calls Tryz.prog 166 #[.pointer (some ⟨b,0,none⟩),.pointer (some ⟨p,0,none⟩)] w fun e w'=>e = .returned (.bool (decide ((x.next (x.told s)).line=0)))∧ClAt w' b (x.next (x.told s))∧Rar w' p q (s.swap x.sa 1 (stateW x.g))∧Fr [b,p,q] w w':=by
 generalize hy:x.next (x.told s)=y
 have HY:=Lib.hid hy
 clear hy
 obtain ⟨c0,c1,c2,c3,c4,c5,c6,c7,c8,c9,c10⟩:=cl_cells h
 have z:=h.frozen
 go_enter Tryz.func166,Tryz.ntmps166
 go_wp2_with fail
 have k4:=In.cell c4
 have k8:=In.cell c8
 clear c0 c1 c2 c3 c4 c5 c6 c7 c8 c9 c10 z
 refine wi ?_
 repeat (go_big_quiet_step ((go_at_call 29;exact Calls.in_same (stAt_any _ _ _))))
 refine wpQuiet_nil ?_
 intro w0 F0
 rw [show stAt x.chunk x.i=x.sa from rfl]
 have h0:ClAt w0 b x:=Ob.up h F0
 have A0:=hA.kept F0
 have D0:Fr [b,p,q] w w0:=F0.mono
 clear k4 k8 h hA F0
 obtain ⟨c0,c1,c2,c3,c4,c5,c6,c7,c8,c9,c10⟩:=cl_cells h0
 have z:=h0.frozen
 go_wp2_with fail
 refine (state_any _ _).mono ?_;rintro e _ ⟨rfl,rfl⟩
 go_wp2_with fail
 have A1:=A0
 have h1:=h0
 have D1:=D0
 clear c0 c1 c2 c3 c4 c5 c6 c7 c8 c9 c10 z
 refine (Ref.swap_any _ p q s _ 1 _ A1).mono ?_;rintro e w5 ⟨rfl,A5,F5⟩
 have h5:=Ob.kept h1 F5 (by simp;exact ⟨hp,hq⟩)
 have D5:=frSub D1 F5 (by simp)
 clear A1 h1 D1 F5 A0 h0 D0
 obtain ⟨c0,c1,c2,c3,c4,c5,c6,c7,c8,c9,c10⟩:=cl_cells h5
 have z:=h5.frozen
 have hn:y = { x with line:=8 }:=by rw [← HY.out];unfold Cl.next;simp [hl]
 subst hn
 go_wp2_with fail
 go_ret
 exact ⟨rfl,(Ob.set h5 (i:=7) (.int .i64 8)),(Rar.set A5 hp hq (i:=7) (.int .i64 8)),(Fr.setCell' D5 (b:=b) (i:=7) (.int .i64 8) (by simp))⟩
theorem cell_step8 (x:Cl) (hl:x.line=8) (hc:x.c.Ok) (b p q:Nat) (s:St) (w:World) (h:ClAt w b x) (hA:Rar w p q s) (hp:b≠p) (hq:b≠q) :
  Calls Tryz.prog 166 #[.pointer (some ⟨b,0,none⟩),.pointer (some ⟨p,0,none⟩)] w fun e w'=>e = .returned (.bool (decide ((x.next (peek s.l x.sa)).line=0)))∧ClAt w' b (x.next (peek s.l x.sa))∧Rar w' p q (s.load x.sa)∧Fr [b,p,q] w w':=by
 generalize hy:x.next (peek s.l x.sa)=y
 have HY:=Lib.hid hy
 clear hy
 obtain ⟨c0,c1,c2,c3,c4,c5,c6,c7,c8,c9,c10⟩:=cl_cells h
 have z:=h.frozen
 go_enter Tryz.func166,Tryz.ntmps166
 go_wp2_with fail
 have k4:=In.cell c4
 have k8:=In.cell c8
 clear c0 c1 c2 c3 c4 c5 c6 c7 c8 c9 c10 z
 refine wi ?_
 repeat (go_big_quiet_step ((go_at_call 29;exact Calls.in_same (stAt_any _ _ _))))
 refine wpQuiet_nil ?_
 intro w0 F0
 rw [show stAt x.chunk x.i=x.sa from rfl]
 have h0:ClAt w0 b x:=Ob.up h F0
 have A0:=hA.kept F0
 have D0:Fr [b,p,q] w w0:=F0.mono
 clear k4 k8 h hA F0
 obtain ⟨c0,c1,c2,c3,c4,c5,c6,c7,c8,c9,c10⟩:=cl_cells h0
 have z:=h0.frozen
 go_wp2_with fail
 have A1:=A0
 have h1:=h0
 have D1:=D0
 clear c0 c1 c2 c3 c4 c5 c6 c7 c8 c9 c10 z
 refine (Ref.load_any _ p q s _ A1).mono ?_;rintro e w5 ⟨rfl,A5,F5⟩
 have h5:=Ob.kept h1 F5 (by simp;exact ⟨hp,hq⟩)
 have D5:=frSub D1 F5 (by simp)
 clear A1 h1 D1 F5 A0 h0 D0
 obtain ⟨c0,c1,c2,c3,c4,c5,c6,c7,c8,c9,c10⟩:=cl_cells h5
 have z:=h5.frozen
 go_wp2_with fail
 refine (ver_any _ _).mono ?_;rintro e _ ⟨rfl,rfl⟩
 have hn:y = { x with version:=verW (peek s.l x.sa),line:=0 }:=by rw [← HY.out];unfold Cl.next;simp [hl]
 subst hn
 go_wp2_with fail
 go_ret
 exact ⟨rfl,(Ob.set (Ob.set h5 (i:=10) (.int .i64 (verW (peek s.l x.sa)))) (i:=7) (.int .i64 0)),(Rar.set (Rar.set A5 hp hq (i:=10) (.int .i64 (verW (peek s.l x.sa)))) hp hq (i:=7) (.int .i64 0)),(Fr.setCell' (Fr.setCell' D5 (b:=b) (i:=10) (.int .i64 (verW (peek s.l x.sa))) (by simp)) (b:=b) (i:=7) (.int .i64 0) (by simp))⟩
theorem cell_step0 (x:Cl) (hl:x.live=false) (b p q:Nat) (w:World) (h:ClAt w b x) :
  Calls Tryz.prog 166 #[.pointer (some ⟨b,0,none⟩),.pointer (some ⟨p,0,none⟩)] w fun e w'=>e = .returned (.bool (decide (x.line=0)))∧Fr [] w w':=by
 obtain ⟨c0,c1,c2,c3,c4,c5,c6,c7,c8,c9,c10⟩:=cl_cells h
 unfold Cl.live at hl
 have l1:x.line≠1:=by intro h;rw [h] at hl;simp at hl
 have l2:x.line≠2:=by intro h;rw [h] at hl;simp at hl
 have l3:x.line≠3:=by intro h;rw [h] at hl;simp at hl
 have l4:x.line≠4:=by intro h;rw [h] at hl;simp at hl
 have l5:x.line≠5:=by intro h;rw [h] at hl;simp at hl
 have l6:x.line≠6:=by intro h;rw [h] at hl;simp at hl
 have l7:x.line≠7:=by intro h;rw [h] at hl;simp at hl
 have l8:x.line≠8:=by intro h;rw [h] at hl;simp at hl
 clear hl
 go_enter Tryz.func166,Tryz.ntmps166
 go_wp2_with fail
 have k4:=In.cell c4
 have k8:=In.cell c8
 have hc7:=c7
 clear c0 c1 c2 c3 c4 c5 c6 c7 c8 c9 c10
 refine wi ?_
 repeat (go_big_quiet_step ((go_at_call 29;exact Calls.in_same (stAt_any _ _ _))))
 refine wpQuiet_nil ?_
 intro w0 F0
 have c7:=F0.cell hc7 (by simp)
 go_wp2_with fail
 go_ret
 exact ⟨rfl,F0⟩
theorem cell_step (x:Cl) (hc:x.c.Ok) (b p q:Nat) (s:St) (w:World) (h:ClAt w b x) (hA:Rar w p q s) (hp:b≠p) (hq:b≠q) :
  Calls Tryz.prog 166 #[.pointer (some ⟨b,0,none⟩),.pointer (some ⟨p,0,none⟩)] w fun e w'=>e = .returned (.bool (decide ((x.step s).1.line=0)))∧ClAt w' b (x.step s).1∧Rar w' p q (x.step s).2∧Fr [b,p,q] w w':=by
 unfold Cl.step
 cases hl:x.live with
 | false=>exact (cell_step0 x hl b p q w h).mono (by rintro e w' ⟨rfl,F⟩;exact ⟨rfl,Ob.up h F,hA.kept F,F.mono⟩)
 | true =>
  unfold Cl.live at hl
  simp only [Bool.and_eq_true,decide_eq_true_eq] at hl
  have hl':x.line=1∨x.line=2∨x.line=3∨x.line=4∨x.line=5∨x.line=6∨x.line=7∨x.line=8:=by omega
  rw [if_pos rfl]
  rcases hl' with l | l | l | l | l | l | l | l
  ·rw [show x.act s=s.load (wrap64 (x.chunk+6)) by unfold Cl.act;simp [l],show x.told s=peek s.l (wrap64 (x.chunk+6)) by unfold Cl.told;simp [l]];exact cell_step1 x l hc b p q s w h hA hp hq
  ·rw [show x.act s=s.add (wrap64 (x.chunk+1)) 1 by unfold Cl.act;simp [l],show x.told s=peek s.l (wrap64 (x.chunk+1)) by unfold Cl.told;simp [l]];exact cell_step2 x l hc b p q s w h hA hp hq
  ·rw [show x.act s=s.store (wrap64 (x.sa+1)) x.key by unfold Cl.act;simp [l]];exact cell_step3 x l hc b p q s w h hA hp hq
  ·rw [show x.act s=s.store (wrap64 (x.sa+2)) x.data by unfold Cl.act;simp [l]];exact cell_step4 x l hc b p q s w h hA hp hq
  ·rw [show x.act s=s.swap x.sa 0 1 by unfold Cl.act;simp [l],show x.told s=(if s.can x.sa 0 then 1 else 0) by unfold Cl.told;simp [l]];exact cell_step5 x l hc b p q s w h hA hp hq
  ·rw [show x.act s=s.load 1 by unfold Cl.act;simp [l],show x.told s=peek s.l 1 by unfold Cl.told;simp [l]];exact cell_step6 x l hc b p q s w h hA hp hq
  ·rw [show x.act s=s.swap x.sa 1 (stateW x.g) by unfold Cl.act;simp [l]];exact cell_step7 x l hc b p q s w h hA hp hq
  ·rw [show x.act s=s.load x.sa by unfold Cl.act;simp [l],show x.told s=peek s.l x.sa by unfold Cl.told;simp [l]];exact cell_step8 x l hc b p q s w h hA hp hq
end Go.Proofs.YtilipdnchflkhaaGreatDoor.Mx
