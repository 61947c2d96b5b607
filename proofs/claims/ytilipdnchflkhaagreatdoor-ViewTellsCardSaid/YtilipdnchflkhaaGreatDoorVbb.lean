/- Texts that this proof leans on, one behind the other: Build2. -/
import Derived.Test.YtilipdnchflkhaaGreatDoorVam
import Derived.Test.YtilipdnchflkhaaGreatDoorVba
set_option linter.unusedVariables false
set_option linter.unusedSimpArgs false
set_option maxRecDepth 100000
set_option maxHeartbeats 12800000
namespace Go.Proofs.YtilipdnchflkhaaGreatDoor.Mx
open Go.RowKit Go.Proofs.YtilipdnchflkhaaGreatDoor.Ar Go.Proofs.YtilipdnchflkhaaGreatDoor.Ref
structure BdOk (x:Bd):Prop where
 c:x.c.Ok
 i0:-1≤x.i
 i1:x.i≤40
 l:x.l.length≤100
 v:x.versions.length≤100
theorem build_3 (x:Bd) (hl:x.line=3) (hc:x.c.Ok) (b p q:Nat) (s:St) (w:World) (vv lv gv wv:Value) (h:BdOb w b x vv lv gv wv) (hA:Rar w p q s) (hp:b≠p) (hq:b≠q) :
  Calls Tryz.prog 194 #[.pointer (some ⟨b,0,none⟩),.pointer (some ⟨p,0,none⟩)] w fun e w'=>e = .returned (.bool (decide ((x.step s).1.line=0)))∧BdOb w' b (x.step s).1 vv lv gv wv∧Rar w' p q (x.step s).2∧Fr [b,p,q] w w':=by
 generalize hy:x.step s=y
 have HY:=Lib.hid hy
 clear hy
 obtain ⟨c0,c1,c2,c3,c4,c5,c6,c7,c8,c9,c10,c11,c12,c13,c14,c15,c16,c17,c18,c19⟩:=bd_cells h
 rw [hl] at c8
 have z:=h.frozen
 go_enter Tryz.func194,Tryz.ntmps194
 go_wp2_with fail
 have k0:=In.cell c0
 have k1:=In.cell c1
 have k2:=In.cell c2
 have k3:=In.cell c3
 have k4:=In.cell c4
 have k5:=In.cell c5
 have k9:=In.cell c9
 clear c0 c1 c2 c3 c4 c5 c6 c7 c8 c9 c10 c11 c12 c13 c14 c15 c16 c17 c18 c19 z
 refine wi ?_
 repeat (go_big_quiet_step ((go_at_call 209;exact Calls.in_ (cellAt_any x.c _ _ _ hc _))))
 refine wpQuiet_nil ?_
 intro w0 F0
 rw [show cellAtP x.c x.chunk x.mate x.i=x.sa from rfl]
 have h0:BdOb w0 b x vv lv gv wv:=Ob.up h F0
 have A0:=hA.kept F0
 have D0:Fr [b,p,q] w w0:=F0.mono
 clear k0 k1 k2 k3 k4 k5 k9 h hA F0
 obtain ⟨c0,c1,c2,c3,c4,c5,c6,c7,c8,c9,c10,c11,c12,c13,c14,c15,c16,c17,c18,c19⟩:=bd_cells h0
 rw [hl] at c8
 have z:=h0.frozen
 go_wp2_with fail
 clear c0 c1 c2 c3 c4 c5 c6 c7 c8 c9 c10 c11 c12 c13 c14 c15 c16 c17 c18 c19 z
 refine (Ref.load_any _ p q s _ A0).mono ?_;rintro e w5 ⟨rfl,A5,F5⟩
 have h5:BdOb w5 b x vv lv gv wv:=Ob.kept h0 F5 (by simp;exact ⟨hp,hq⟩)
 have D5:=frSub D0 F5 (by simp)
 clear A0 h0 D0 F5
 obtain ⟨c0,c1,c2,c3,c4,c5,c6,c7,c8,c9,c10,c11,c12,c13,c14,c15,c16,c17,c18,c19⟩:=bd_cells h5
 have z:=h5.frozen
 have hn:y=({ x with x:=⟨peek s.l (wrap64 (x.sa+1)),x.x.v,x.x.d⟩,line:=4 },s.load (wrap64 (x.sa+1))):=by rw [← HY.out];unfold Bd.step;simp [hl]
 subst hn
 go_wp2_with fail
 go_ret
 exact ⟨rfl,(Ob.set (Ob.set h5 (i:=12) (.int .i64 (peek s.l (wrap64 (x.sa+1))))) (i:=8) (.int .i64 4)),(Rar.set (Rar.set A5 hp hq (i:=12) (.int .i64 (peek s.l (wrap64 (x.sa+1))))) hp hq (i:=8) (.int .i64 4)),(Fr.setCell' (Fr.setCell' D5 (b:=b) (i:=12) (.int .i64 (peek s.l (wrap64 (x.sa+1)))) (by simp)) (b:=b) (i:=8) (.int .i64 4) (by simp))⟩
theorem build_7 (x:Bd) (hl:x.line=7) (hc:x.c.Ok) (b p q:Nat) (s:St) (w:World) (vv lv gv wv:Value) (h:BdOb w b x vv lv gv wv) (hA:Rar w p q s) (hp:b≠p) (hq:b≠q) :
  Calls Tryz.prog 194 #[.pointer (some ⟨b,0,none⟩),.pointer (some ⟨p,0,none⟩)] w fun e w'=>e = .returned (.bool (decide ((x.step s).1.line=0)))∧BdOb w' b (x.step s).1 vv lv gv wv∧Rar w' p q (x.step s).2∧Fr [b,p,q] w w':=by
 generalize hy:x.step s=y
 have HY:=Lib.hid hy
 clear hy
 obtain ⟨c0,c1,c2,c3,c4,c5,c6,c7,c8,c9,c10,c11,c12,c13,c14,c15,c16,c17,c18,c19⟩:=bd_cells h
 rw [hl] at c8
 have z:=h.frozen
 go_enter Tryz.func194,Tryz.ntmps194
 go_wp2_with fail
 have k0:=In.cell c0
 have k1:=In.cell c1
 have k2:=In.cell c2
 have k3:=In.cell c3
 have k4:=In.cell c4
 have k5:=In.cell c5
 have k9:=In.cell c9
 clear c0 c1 c2 c3 c4 c5 c6 c7 c8 c9 c10 c11 c12 c13 c14 c15 c16 c17 c18 c19 z
 refine wi ?_
 repeat (go_big_quiet_step ((go_at_call 209;exact Calls.in_ (cellAt_any x.c _ _ _ hc _))))
 refine wpQuiet_nil ?_
 intro w0 F0
 rw [show cellAtP x.c x.chunk x.mate x.i=x.sa from rfl]
 have h0:BdOb w0 b x vv lv gv wv:=Ob.up h F0
 have A0:=hA.kept F0
 have D0:Fr [b,p,q] w w0:=F0.mono
 clear k0 k1 k2 k3 k4 k5 k9 h hA F0
 obtain ⟨c0,c1,c2,c3,c4,c5,c6,c7,c8,c9,c10,c11,c12,c13,c14,c15,c16,c17,c18,c19⟩:=bd_cells h0
 rw [hl] at c8
 have z:=h0.frozen
 go_wp2_with fail
 clear c0 c1 c2 c3 c4 c5 c6 c7 c8 c9 c10 c11 c12 c13 c14 c15 c16 c17 c18 c19 z
 refine wp_region_env (by kernel_rfl) [p,q] (fun w2 F2=>?_)
 refine ep [true,true,true,true,true,true,true,true,true,true,false] 1 (F2.mono) ?_
 apply Exists.intro
 refine ⟨fun wf Ff=>?_,?_⟩
 ·have hf:BdOb wf b x vv lv gv wv:=Ob.kept h0 Ff (by simp;exact ⟨hp,hq⟩)
  obtain ⟨-,-,-,-,c4,-,-,-,-,-,-,c11,-,-,-,-,-,-,-,-⟩:=bd_cells hf
  have k4:=In.cell c4
  have k11:=In.cell c11
  clear hf c4 c11
  simp only [sel]
  repeat (go_big_quiet_step (fail))
  exact wpQuiet_nil rfl
 refine eo 10 (fun w3 F3=>?_)
 have E3:=F2.trans F3
 have A3:=A0.kept E3
 have h3:BdOb w3 b x vv lv gv wv:=Ob.up h0 E3
 have G3:=frSub D0 E3 (by simp)
 clear F2 F3 A0 h0 D0
 go_wp2_with fail
 refine (Ref.swap_any _ p q s _ _ _ A3).mono ?_;rintro e w4 ⟨rfl,A4,F4⟩
 have E4:=(E3.mono (T:=[p,q]) (by simp)).trans F4
 have h4:BdOb w4 b x vv lv gv wv:=Ob.kept h3 F4 (by simp;exact ⟨hp,hq⟩)
 have G4:=frSub G3 F4 (by simp)
 clear A3 h3 F4 G3 E3
 go_wp2_with fail
 refine nx_normal ⟨E4,?_⟩
 refine env_done (by kernel_rfl) (fun w5 F5=>?_)
 have D5:=G4.then F5
 have h5:BdOb w5 b x vv lv gv wv:=Ob.up h4 F5
 have A5:=A4.kept F5
 clear A4 h4 F5 G4 E4
 obtain ⟨c0,c1,c2,c3,c4,c5,c6,c7,c8,c9,c10,c11,c12,c13,c14,c15,c16,c17,c18,c19⟩:=bd_cells h5
 have z:=h5.frozen
 have hn:y=({ x with line:=8 },s.swap (wrap64 (x.chunk+5)) 0 x.at_):=by rw [← HY.out];unfold Bd.step;simp [hl]
 subst hn
 go_wp2_with fail
 go_ret
 exact ⟨rfl,(Ob.set h5 (i:=8) (.int .i64 8)),(Rar.set A5 hp hq (i:=8) (.int .i64 8)),(Fr.setCell' D5 (b:=b) (i:=8) (.int .i64 8) (by simp))⟩
theorem build_8 (x:Bd) (hl:x.line=8) (hc:x.c.Ok) (b p q:Nat) (s:St) (w:World) (vv lv gv wv:Value) (h:BdOb w b x vv lv gv wv) (hA:Rar w p q s) (hp:b≠p) (hq:b≠q) :
  Calls Tryz.prog 194 #[.pointer (some ⟨b,0,none⟩),.pointer (some ⟨p,0,none⟩)] w fun e w'=>e = .returned (.bool (decide ((x.step s).1.line=0)))∧BdOb w' b (x.step s).1 vv lv gv wv∧Rar w' p q (x.step s).2∧Fr [b,p,q] w w':=by
 generalize hy:x.step s=y
 have HY:=Lib.hid hy
 clear hy
 obtain ⟨c0,c1,c2,c3,c4,c5,c6,c7,c8,c9,c10,c11,c12,c13,c14,c15,c16,c17,c18,c19⟩:=bd_cells h
 rw [hl] at c8
 have z:=h.frozen
 go_enter Tryz.func194,Tryz.ntmps194
 go_wp2_with fail
 have k0:=In.cell c0
 have k1:=In.cell c1
 have k2:=In.cell c2
 have k3:=In.cell c3
 have k4:=In.cell c4
 have k5:=In.cell c5
 have k9:=In.cell c9
 clear c0 c1 c2 c3 c4 c5 c6 c7 c8 c9 c10 c11 c12 c13 c14 c15 c16 c17 c18 c19 z
 refine wi ?_
 repeat (go_big_quiet_step ((go_at_call 209;exact Calls.in_ (cellAt_any x.c _ _ _ hc _))))
 refine wpQuiet_nil ?_
 intro w0 F0
 rw [show cellAtP x.c x.chunk x.mate x.i=x.sa from rfl]
 have h0:BdOb w0 b x vv lv gv wv:=Ob.up h F0
 have A0:=hA.kept F0
 have D0:Fr [b,p,q] w w0:=F0.mono
 clear k0 k1 k2 k3 k4 k5 k9 h hA F0
 obtain ⟨c0,c1,c2,c3,c4,c5,c6,c7,c8,c9,c10,c11,c12,c13,c14,c15,c16,c17,c18,c19⟩:=bd_cells h0
 rw [hl] at c8
 have z:=h0.frozen
 go_wp2_with fail
 clear c0 c1 c2 c3 c4 c5 c6 c7 c8 c9 c10 c11 c12 c13 c14 c15 c16 c17 c18 c19 z
 refine (Ref.load_any _ p q s _ A0).mono ?_;rintro e w5 ⟨rfl,A5,F5⟩
 have h5:BdOb w5 b x vv lv gv wv:=Ob.kept h0 F5 (by simp;exact ⟨hp,hq⟩)
 have D5:=frSub D0 F5 (by simp)
 clear A0 h0 D0 F5
 obtain ⟨c0,c1,c2,c3,c4,c5,c6,c7,c8,c9,c10,c11,c12,c13,c14,c15,c16,c17,c18,c19⟩:=bd_cells h5
 have z:=h5.frozen
 have hn:y=({ x with repl:=peek s.l (wrap64 (x.chunk+5)),line:=0 },s.load (wrap64 (x.chunk+5))):=by rw [← HY.out];unfold Bd.step;simp [hl]
 subst hn
 go_wp2_with fail
 go_ret
 exact ⟨rfl,(Ob.set (Ob.set h5 (i:=18) (.int .i64 (peek s.l (wrap64 (x.chunk+5))))) (i:=8) (.int .i64 0)),(Rar.set (Rar.set A5 hp hq (i:=18) (.int .i64 (peek s.l (wrap64 (x.chunk+5))))) hp hq (i:=8) (.int .i64 0)),(Fr.setCell' (Fr.setCell' D5 (b:=b) (i:=18) (.int .i64 (peek s.l (wrap64 (x.chunk+5)))) (by simp)) (b:=b) (i:=8) (.int .i64 0) (by simp))⟩
theorem build_1 (x:Bd) (hl:x.line=1) (hx:BdOk x) (b p q:Nat) (s:St) (w:World) (vv lv gv wv:Value) (h:BdOb w b x vv lv gv wv) (hA:Rar w p q s) (hp:b≠p) (hq:b≠q) (hV:Sq fI w vv x.versions) (hL:Sq fT w lv x.l) (nV:b∉vv.ownBlock.toList∧p∉vv.ownBlock.toList∧q∉vv.ownBlock.toList) (nL:b∉lv.ownBlock.toList∧p∉lv.ownBlock.toList∧q∉lv.ownBlock.toList) :
  Calls Tryz.prog 194 #[.pointer (some ⟨b,0,none⟩),.pointer (some ⟨p,0,none⟩)] w fun e w'=>e = .returned (.bool (decide ((x.step s).1.line=0)))∧(∃ gv',BdOb w' b (x.step s).1 vv lv gv' wv∧(((x.step s).1.groups=x.groups∧gv'=gv)∨∃ ss,Sq fS w' gv' ss∧Gs w' ss (x.step s).1.groups∧(∀ k,k∈gv'.ownBlock.toList→w.heap.size≤k∧k<w'.heap.size)∧(∀ s,s∈ss→∀ k,k∈s.v.ownBlock.toList→w.heap.size≤k∧k<w'.heap.size)))∧Rar w' p q (x.step s).2∧Fr [b,p,q] w w':=by
 have hc:=hx.c
 generalize hy:x.step s=y
 have HY:=Lib.hid hy
 clear hy
 obtain ⟨c0,c1,c2,c3,c4,c5,c6,c7,c8,c9,c10,c11,c12,c13,c14,c15,c16,c17,c18,c19⟩:=bd_cells h
 rw [hl] at c8
 have z:=h.frozen
 go_enter Tryz.func194,Tryz.ntmps194
 go_wp2_with fail
 have k0:=In.cell c0
 have k1:=In.cell c1
 have k2:=In.cell c2
 have k3:=In.cell c3
 have k4:=In.cell c4
 have k5:=In.cell c5
 have k9:=In.cell c9
 clear c0 c1 c2 c3 c4 c5 c6 c7 c8 c9 c10 c11 c12 c13 c14 c15 c16 c17 c18 c19 z
 refine wi ?_
 repeat (go_big_quiet_step ((go_at_call 209;exact Calls.in_ (cellAt_any x.c _ _ _ hc _))))
 refine wpQuiet_nil ?_
 intro w0 F0
 rw [show cellAtP x.c x.chunk x.mate x.i=x.sa from rfl]
 have h0:BdOb w0 b x vv lv gv wv:=Ob.up h F0
 have A0:=hA.kept F0
 have D0:Fr [b,p,q] w w0:=F0.mono
 clear k0 k1 k2 k3 k4 k5 k9 h hA F0
 obtain ⟨c0,c1,c2,c3,c4,c5,c6,c7,c8,c9,c10,c11,c12,c13,c14,c15,c16,c17,c18,c19⟩:=bd_cells h0
 rw [hl] at c8
 have z:=h0.frozen
 go_wp2_with fail
 clear c0 c1 c2 c3 c4 c5 c6 c7 c8 c9 c10 c11 c12 c13 c14 c15 c16 c17 c18 c19 z
 refine (Ref.load_any _ p q s _ A0).mono ?_;rintro e w5 ⟨rfl,A5,F5⟩
 have h5:BdOb w5 b x vv lv gv wv:=Ob.kept h0 F5 (by simp;exact ⟨hp,hq⟩)
 have D5:=frSub D0 F5 (by simp)
 clear A0 h0 D0 F5
 obtain ⟨c0,c1,c2,c3,c4,c5,c6,c7,c8,c9,c10,c11,c12,c13,c14,c15,c16,c17,c18,c19⟩:=bd_cells h5
 have z:=h5.frozen
 go_wp2_with fail
 have h6:BdOb _ b { x with mn:=peek s.l (wrap64 x.chunk),i:=-1 } vv lv gv wv:=(Ob.set (Ob.set h5 (i:=10) (.int .i64 (peek s.l (wrap64 x.chunk)))) (i:=9) (.int .i64 (-1)))
 have A6:=(Rar.set (Rar.set A5 hp hq (i:=10) (.int .i64 (peek s.l (wrap64 x.chunk)))) hp hq (i:=9) (.int .i64 (-1)))
 have D6:=(Fr.setCell' (Fr.setCell' D5 (b:=b) (i:=10) (.int .i64 (peek s.l (wrap64 x.chunk))) (by simp)) (b:=b) (i:=9) (.int .i64 (-1)) (by simp))
 clear c0 c1 c2 c3 c4 c5 c6 c7 c8 c9 c10 c11 c12 c13 c14 c15 c16 c17 c18 c19 z h5 A5 D5
 generalize ((w5.setCell ⟨b,10,none⟩ (.int .i64 (peek s.l (wrap64 x.chunk)))).setCell ⟨b,9,none⟩ (.int .i64 (-1)))=w6 at *
 have V6:=hV.kept D6 (fun k hk hi=>by simp only [List.mem_cons,List.not_mem_nil,or_false] at hi;rcases hi with rfl | rfl | rfl;exact nV.1 hk;exact nV.2.1 hk;exact nV.2.2 hk)
 have L6:=hL.kept D6 (fun k hk hi=>by simp only [List.mem_cons,List.not_mem_nil,or_false] at hi;rcases hi with rfl | rfl | rfl;exact nL.1 hk;exact nL.2.1 hk;exact nL.2.2 hk)
 have hi0:=hx.i0
 have hi1:=hx.i1
 have hll:=hx.l
 have hvl:=hx.v
 refine (build_on { x with mn:=peek s.l (wrap64 x.chunk),i:=-1 } hc ⟨by simp only;omega,by simp only;omega⟩ (by simp only;omega) (by simp only;omega) b _ vv lv gv wv h6 V6 L6 nV.1 nL.1).mono ?_;rintro e w7 ⟨rfl,⟨gv',h7,hg⟩,F7⟩
 have A7:=A6.kept F7 (by simp;exact Ne.symm hp) (by simp;exact Ne.symm hq)
 have D7:=D6.trans (F7.mono (T:=[b,p,q]) (by simp))
 have HG:=Lib.hid hg
 have HW:=Lib.hid D6.size
 clear h6 A6 D6 V6 L6 hg F7 hi0 hi1 hll hvl
 generalize hyo:Bd.on { x with mn:=peek s.l (wrap64 x.chunk),i:=-1 } = yo at *
 have HYO:=Lib.hid hyo
 clear hyo
 obtain ⟨c0,c1,c2,c3,c4,c5,c6,c7,c8,c9,c10,c11,c12,c13,c14,c15,c16,c17,c18,c19⟩:=bd_cells h7
 have z:=h7.frozen
 go_wp2_with fail
 go_ret
 have hn:y=(yo,s.load (wrap64 x.chunk)):=by rw [← HY.out,← HYO.out];unfold Bd.step;simp [hl]
 subst hn
 exact ⟨rfl,⟨gv',h7,HG.out.imp id (fun ⟨ss,a1,a2,a3,a4⟩=>⟨ss,a1,a2,fun k hk=>⟨Nat.le_trans HW.out (a3 k hk).1,(a3 k hk).2⟩,fun s hs k hk=>⟨Nat.le_trans HW.out (a4 s hs k hk).1,(a4 s hs k hk).2⟩⟩)⟩,A7,D7⟩
theorem build_2 (x:Bd) (hl:x.line=2) (hx:BdOk x) (b p q:Nat) (s:St) (w:World) (vv lv gv wv:Value) (h:BdOb w b x vv lv gv wv) (hA:Rar w p q s) (hp:b≠p) (hq:b≠q) (hV:Sq fI w vv x.versions) (hL:Sq fT w lv x.l) (nV:b∉vv.ownBlock.toList∧p∉vv.ownBlock.toList∧q∉vv.ownBlock.toList) (nL:b∉lv.ownBlock.toList∧p∉lv.ownBlock.toList∧q∉lv.ownBlock.toList) :
  Calls Tryz.prog 194 #[.pointer (some ⟨b,0,none⟩),.pointer (some ⟨p,0,none⟩)] w fun e w'=>e = .returned (.bool (decide ((x.step s).1.line=0)))∧(∃ gv',BdOb w' b (x.step s).1 vv lv gv' wv∧(((x.step s).1.groups=x.groups∧gv'=gv)∨∃ ss,Sq fS w' gv' ss∧Gs w' ss (x.step s).1.groups∧(∀ k,k∈gv'.ownBlock.toList→w.heap.size≤k∧k<w'.heap.size)∧(∀ s,s∈ss→∀ k,k∈s.v.ownBlock.toList→w.heap.size≤k∧k<w'.heap.size)))∧Rar w' p q (x.step s).2∧Fr [b,p,q] w w':=by
 have hc:=hx.c
 generalize hy:x.step s=y
 have HY:=Lib.hid hy
 clear hy
 obtain ⟨c0,c1,c2,c3,c4,c5,c6,c7,c8,c9,c10,c11,c12,c13,c14,c15,c16,c17,c18,c19⟩:=bd_cells h
 rw [hl] at c8
 have z:=h.frozen
 go_enter Tryz.func194,Tryz.ntmps194
 go_wp2_with fail
 have k0:=In.cell c0
 have k1:=In.cell c1
 have k2:=In.cell c2
 have k3:=In.cell c3
 have k4:=In.cell c4
 have k5:=In.cell c5
 have k9:=In.cell c9
 clear c0 c1 c2 c3 c4 c5 c6 c7 c8 c9 c10 c11 c12 c13 c14 c15 c16 c17 c18 c19 z
 refine wi ?_
 repeat (go_big_quiet_step ((go_at_call 209;exact Calls.in_ (cellAt_any x.c _ _ _ hc _))))
 refine wpQuiet_nil ?_
 intro w0 F0
 rw [show cellAtP x.c x.chunk x.mate x.i=x.sa from rfl]
 have h0:BdOb w0 b x vv lv gv wv:=Ob.up h F0
 have A0:=hA.kept F0
 have D0:Fr [b,p,q] w w0:=F0.mono
 clear k0 k1 k2 k3 k4 k5 k9 h hA F0
 obtain ⟨c0,c1,c2,c3,c4,c5,c6,c7,c8,c9,c10,c11,c12,c13,c14,c15,c16,c17,c18,c19⟩:=bd_cells h0
 rw [hl] at c8
 have z:=h0.frozen
 go_wp2_with fail
 clear c0 c1 c2 c3 c4 c5 c6 c7 c8 c9 c10 c11 c12 c13 c14 c15 c16 c17 c18 c19 z
 refine (Ref.load_any _ p q s _ A0).mono ?_;rintro e w5 ⟨rfl,A5,F5⟩
 have h5:BdOb w5 b x vv lv gv wv:=Ob.kept h0 F5 (by simp;exact ⟨hp,hq⟩)
 have D5:=frSub D0 F5 (by simp)
 clear A0 h0 D0 F5
 obtain ⟨c0,c1,c2,c3,c4,c5,c6,c7,c8,c9,c10,c11,c12,c13,c14,c15,c16,c17,c18,c19⟩:=bd_cells h5
 have z:=h5.frozen
 generalize hv:peek s.l x.sa=v at *
 have HV:=Lib.hid hv
 clear hv
 by_cases hlt:v<3
 ·generalize hvw:verW v=vw at *
  have HVW:=Lib.hid hvw
  clear hvw
  go_wp2_with (go_at_call 32;refine (ver_any _ _).mono ?_;rintro e _ ⟨rfl,rfl⟩;rw [HVW.out])
  have h6:BdOb _ b { x with x:=⟨0,vw,0⟩,line:=3 } vv lv gv wv:=(Ob.set (Ob.set (Ob.set (Ob.set h5 (i:=12) (.int .i64 0)) (i:=13) (.int .i64 vw)) (i:=14) (.int .i64 0)) (i:=8) (.int .i64 3))
  have A6:=(Rar.set (Rar.set (Rar.set (Rar.set A5 hp hq (i:=12) (.int .i64 0)) hp hq (i:=13) (.int .i64 vw)) hp hq (i:=14) (.int .i64 0)) hp hq (i:=8) (.int .i64 3))
  have D6:=(Fr.setCell' (Fr.setCell' (Fr.setCell' (Fr.setCell' D5 (b:=b) (i:=12) (.int .i64 0) (by simp)) (b:=b) (i:=13) (.int .i64 vw) (by simp)) (b:=b) (i:=14) (.int .i64 0) (by simp)) (b:=b) (i:=8) (.int .i64 3) (by simp))
  clear c0 c1 c2 c3 c4 c5 c6 c7 c8 c9 c10 c11 c12 c13 c14 c15 c16 c17 c18 c19 z h5 A5 D5
  generalize ((((w5.setCell ⟨b,12,none⟩ (.int .i64 0)).setCell ⟨b,13,none⟩ (.int .i64 vw)).setCell ⟨b,14,none⟩ (.int .i64 0)).setCell ⟨b,8,none⟩ (.int .i64 3))=w6 at *
  have V6:=hV.kept D6 (fun k hk hi=>by simp only [List.mem_cons,List.not_mem_nil,or_false] at hi;rcases hi with rfl | rfl | rfl;exact nV.1 hk;exact nV.2.1 hk;exact nV.2.2 hk)
  have L6:=hL.kept D6 (fun k hk hi=>by simp only [List.mem_cons,List.not_mem_nil,or_false] at hi;rcases hi with rfl | rfl | rfl;exact nL.1 hk;exact nL.2.1 hk;exact nL.2.2 hk)
  have hi0:=hx.i0
  have hi1:=hx.i1
  have hll:=hx.l
  have hvl:=hx.v
  refine (build_on { x with x:=⟨0,vw,0⟩,line:=3 } hc ⟨by simp only;omega,by simp only;omega⟩ (by simp only;omega) (by simp only;omega) b _ vv lv gv wv h6 V6 L6 nV.1 nL.1).mono ?_;rintro e w7 ⟨rfl,⟨gv',h7,hg⟩,F7⟩
  have A7:=A6.kept F7 (by simp;exact Ne.symm hp) (by simp;exact Ne.symm hq)
  have D7:=D6.trans (F7.mono (T:=[b,p,q]) (by simp))
  have HG:=Lib.hid hg
  have HW:=Lib.hid D6.size
  clear h6 A6 D6 V6 L6 hg F7 hi0 hi1 hll hvl
  generalize hyo:Bd.on { x with x:=⟨0,vw,0⟩,line:=3 } = yo at *
  have HYO:=Lib.hid hyo
  clear hyo
  obtain ⟨c0,c1,c2,c3,c4,c5,c6,c7,c8,c9,c10,c11,c12,c13,c14,c15,c16,c17,c18,c19⟩:=bd_cells h7
  have z:=h7.frozen
  go_wp2_with fail
  go_ret
  have hn:y=(yo,s.load x.sa):=by rw [← HY.out,← HYO.out];unfold Bd.step;simp [hl,HV.out,hlt,HVW.out]
  subst hn
  exact ⟨rfl,⟨gv',h7,HG.out.imp id (fun ⟨ss,a1,a2,a3,a4⟩=>⟨ss,a1,a2,fun k hk=>⟨Nat.le_trans HW.out (a3 k hk).1,(a3 k hk).2⟩,fun s hs k hk=>⟨Nat.le_trans HW.out (a4 s hs k hk).1,(a4 s hs k hk).2⟩⟩)⟩,A7,D7⟩
 ·generalize hvw:verW v=vw at *
  have HVW:=Lib.hid hvw
  clear hvw
  go_wp2_with (go_at_call 32;refine (ver_any _ _).mono ?_;rintro e _ ⟨rfl,rfl⟩;rw [HVW.out])
  go_ret
  have hn:y=({ x with x:=⟨0,vw,0⟩,line:=3 },s.load x.sa):=by rw [← HY.out];unfold Bd.step;simp [hl,HV.out,(show ¬ v<3 by omega),HVW.out]
  subst hn
  exact ⟨rfl,⟨gv,(Ob.set (Ob.set (Ob.set (Ob.set h5 (i:=12) (.int .i64 0)) (i:=13) (.int .i64 vw)) (i:=14) (.int .i64 0)) (i:=8) (.int .i64 3)),.inl ⟨rfl,rfl⟩⟩,(Rar.set (Rar.set (Rar.set (Rar.set A5 hp hq (i:=12) (.int .i64 0)) hp hq (i:=13) (.int .i64 vw)) hp hq (i:=14) (.int .i64 0)) hp hq (i:=8) (.int .i64 3)),(Fr.setCell' (Fr.setCell' (Fr.setCell' (Fr.setCell' D5 (b:=b) (i:=12) (.int .i64 0) (by simp)) (b:=b) (i:=13) (.int .i64 vw) (by simp)) (b:=b) (i:=14) (.int .i64 0) (by simp)) (b:=b) (i:=8) (.int .i64 3) (by simp))⟩
theorem wo_cells {w:World} {a:Option Addr} {n cap i:Nat} {xs:List (Int×Int)} {x:Int×Int} (h:Sq fQ w (.slice a n cap) xs) (hi:xs[i]? = some x) :
  ∃ g off,a=some ⟨g,off,none⟩∧w.cell? ⟨g,off+i * 2,none⟩=some (.int .i64 x.1)∧w.cell? ⟨g,off+i * 2+1,none⟩=some (.int .i64 x.2):=by
 obtain ⟨-,g,off,rfl,hc⟩:=Sq.cell fQ_lays h hi
 exact ⟨g,off,rfl,hc 0 _ rfl,hc 1 _ rfl⟩
theorem build_6 (x:Bd) (hl:x.line=6) (hc:x.c.Ok) (hi:0≤x.i∧x.i<(x.w.length:Int)) (hwl:x.w.length≤100000) (b p q:Nat) (s:St) (w:World) (vv lv gv wv:Value) (h:BdOb w b x vv lv gv wv) (hA:Rar w p q s) (hp:b≠p) (hq:b≠q) (hW:Sq fQ w wv x.w) (nW:b∉wv.ownBlock.toList∧p∉wv.ownBlock.toList∧q∉wv.ownBlock.toList) :
  Calls Tryz.prog 194 #[.pointer (some ⟨b,0,none⟩),.pointer (some ⟨p,0,none⟩)] w fun e w'=>e = .returned (.bool (decide ((x.step s).1.line=0)))∧BdOb w' b (x.step s).1 vv lv gv wv∧Rar w' p q (x.step s).2∧Fr [b,p,q] w w':=by
 generalize hy:x.step s=y
 have HY:=Lib.hid hy
 clear hy
 obtain ⟨hi0,hi1⟩:=hi
 obtain ⟨av,cv,rfl,hcv,hmv,-⟩:=id hW
 obtain ⟨i,hxi⟩:∃ i:Nat,x.i=(i:Int):=⟨x.i.toNat,by omega⟩
 obtain ⟨u,hu⟩:∃ u,x.w[i]? = some u:=⟨x.w[i]'(by omega),List.getElem?_eq_getElem _⟩
 obtain ⟨g,off,rfl,-,-⟩:=wo_cells hW hu
 have HXI:=Lib.hid hxi
 have hil:(i:Int)<(x.w.length:Int):=by omega
 have hil0:(0:Int)≤(i:Int):=by omega
 have HNT:=Lib.hid (show x.nth=u by unfold Bd.nth;rw [hxi,Int.toNat_natCast,List.getD_eq_getElem?_getD,hu];rfl)
 have HW9:=Lib.hid (And.intro hW (And.intro hu nW))
 clear hW hu nW hxi
 obtain ⟨c0,c1,c2,c3,c4,c5,c6,c7,c8,c9,c10,c11,c12,c13,c14,c15,c16,c17,c18,c19⟩:=bd_cells h
 rw [hl] at c8
 have z:=h.frozen
 go_enter Tryz.func194,Tryz.ntmps194
 go_wp2_with fail
 have k0:=In.cell c0
 have k1:=In.cell c1
 have k2:=In.cell c2
 have k3:=In.cell c3
 have k4:=In.cell c4
 have k5:=In.cell c5
 have k9:=In.cell c9
 clear c0 c1 c2 c3 c4 c5 c6 c7 c8 c9 c10 c11 c12 c13 c14 c15 c16 c17 c18 c19 z
 refine wi ?_
 repeat (go_big_quiet_step ((go_at_call 209;exact Calls.in_ (cellAt_any x.c _ _ _ hc _))))
 refine wpQuiet_nil ?_
 intro w0 F0
 rw [show cellAtP x.c x.chunk x.mate x.i=x.sa from rfl]
 have h0:BdOb w0 b x vv lv gv (.slice (some ⟨g,off,none⟩) x.w.length cv):=Ob.up h F0
 have A0:=hA.kept F0
 have D0:Fr [b,p,q] w w0:=F0.mono
 have HW0:=Lib.hid (HW9.out.1.up F0)
 clear k0 k1 k2 k3 k4 k5 k9 h hA F0
 obtain ⟨c0,c1,c2,c3,c4,c5,c6,c7,c8,c9,c10,c11,c12,c13,c14,c15,c16,c17,c18,c19⟩:=bd_cells h0
 rw [hl] at c8
 have z:=h0.frozen
 go_wp2_with fail
 clear c0 c1 c2 c3 c4 c5 c6 c7 c8 c9 c10 c11 c12 c13 c14 c15 c16 c17 c18 c19 z
 refine wp_region_env (by kernel_rfl) [p,q] (fun w2 F2=>?_)
 refine ep [true,true,true,true,true,true,true,true,true,true,true,true,true,true,true,true,true,true,true,true,true,true,true,false] 1 (F2.mono) ?_
 apply Exists.intro
 refine ⟨fun wf Ff=>?_,?_⟩
 ·have hf:BdOb wf b x vv lv gv (.slice (some ⟨g,off,none⟩) x.w.length cv):=Ob.kept h0 Ff (by simp;exact ⟨hp,hq⟩)
  obtain ⟨-,-,-,-,-,-,-,-,-,c9,-,-,-,-,-,-,-,c17,-,-⟩:=bd_cells hf
  rw [HXI.out] at c9
  obtain ⟨g',off',e1,d0,d1⟩:=wo_cells (HW0.out.kept Ff (fun k hk hi=>by simp only [List.mem_cons,List.not_mem_nil,or_false] at hi;rcases hi with rfl | rfl;exact HW9.out.2.2.2.1 hk;exact HW9.out.2.2.2.2 hk)) HW9.out.2.1
  simp only [Option.some.injEq,Addr.mk.injEq] at e1
  obtain ⟨rfl,rfl,-⟩:=e1
  have k20:=In.cell d0
  have k21:=In.cell d1
  clear d0 d1
  have k9:=In.cell c9
  have k17:=In.cell c17
  clear hf c9 c17
  simp only [sel]
  repeat (go_big_quiet_step (fail))
  exact wpQuiet_nil rfl
 refine eo 23 (fun w3 F3=>?_)
 have E3:=F2.trans F3
 have A3:=A0.kept E3
 have h3:BdOb w3 b x vv lv gv (.slice (some ⟨g,off,none⟩) x.w.length cv):=Ob.up h0 E3
 have G3:=frSub D0 E3 (by simp)
 clear F2 F3 A0 h0 D0
 go_wp2_with fail
 refine (Ref.store_any _ p q s _ _ A3).mono ?_;rintro e w4 ⟨rfl,A4,F4⟩
 have E4:=(E3.mono (T:=[p,q]) (by simp)).trans F4
 have h4:BdOb w4 b x vv lv gv (.slice (some ⟨g,off,none⟩) x.w.length cv):=Ob.kept h3 F4 (by simp;exact ⟨hp,hq⟩)
 have G4:=frSub G3 F4 (by simp)
 clear A3 h3 F4 G3 E3
 go_wp2_with fail
 refine nx_normal ⟨E4,?_⟩
 refine env_done (by kernel_rfl) (fun w5 F5=>?_)
 have D5:=G4.then F5
 have h5:BdOb w5 b x vv lv gv (.slice (some ⟨g,off,none⟩) x.w.length cv):=Ob.up h4 F5
 have A5:=A4.kept F5
 clear A4 h4 F5 G4 E4
 obtain ⟨c0,c1,c2,c3,c4,c5,c6,c7,c8,c9,c10,c11,c12,c13,c14,c15,c16,c17,c18,c19⟩:=bd_cells h5
 have z:=h5.frozen
 rw [HXI.out] at c9
 go_wp2_with fail
 have h6:BdOb _ b { x with i:=(i:Int)+1 } vv lv gv (.slice (some ⟨g,off,none⟩) x.w.length cv):=(Ob.set h5 (i:=9) (.int .i64 ((i:Int)+1)))
 have A6:=(Rar.set A5 hp hq (i:=9) (.int .i64 ((i:Int)+1)))
 have D6:=(Fr.setCell' D5 (b:=b) (i:=9) (.int .i64 ((i:Int)+1)) (by simp))
 clear c0 c1 c2 c3 c4 c5 c6 c7 c8 c9 c10 c11 c12 c13 c14 c15 c16 c17 c18 c19 z h5 A5 D5
 generalize (w5.setCell ⟨b,9,none⟩ (.int .i64 ((i:Int)+1)))=w6 at *
 obtain ⟨c0,c1,c2,c3,c4,c5,c6,c7,c8,c9,c10,c11,c12,c13,c14,c15,c16,c17,c18,c19⟩:=bd_cells h6
 have k9:=In.cell c9
 have k17:=In.cell c17
 clear c0 c1 c2 c3 c4 c5 c6 c7 c8 c9 c10 c11 c12 c13 c14 c15 c16 c17 c18 c19
 refine wi ?_
 repeat (go_big_quiet_step (fail))
 refine wpQuiet_nil ?_
 intro w7 F7
 have h7:=Ob.up h6 F7
 have A7:=A6.kept F7
 have D7:=D6.then F7
 clear k9 k17 h6 A6 D6 F7
 obtain ⟨c0,c1,c2,c3,c4,c5,c6,c7,c8,c9,c10,c11,c12,c13,c14,c15,c16,c17,c18,c19⟩:=bd_cells h7
 rw [show ({ x with i:=(i:Int)+1 }:Bd).line=6 from hl] at c8
 have z:=h7.frozen
 by_cases hge:(x.w.length:Int)≤(i:Int)+1
 ·go_wp2_with fail
  go_ret
  have hn:y=({ x with i:=(i:Int)+1,line:=7 },s.store u.1 u.2):=by rw [← HY.out];unfold Bd.step;simp [hl,HNT.out,HXI.out,hge]
  subst hn
  exact ⟨rfl,Ob.set h7 (i:=8) (.int .i64 7),Rar.set A7 hp hq (i:=8) (.int .i64 7),Fr.setCell' D7 (b:=b) (i:=8) (.int .i64 7) (by simp)⟩
 ·go_wp2_with fail
  go_ret
  have hn:y=({ x with i:=(i:Int)+1,line:=6 },s.store u.1 u.2):=by rw [← HY.out];unfold Bd.step;simp [hl,HNT.out,HXI.out,(show ¬ (x.w.length:Int)≤(i:Int)+1 by omega)]
  subst hn
  exact ⟨rfl,by rw [← hl];exact h7,A7,D7⟩
theorem build_4 (x:Bd) (hl:x.line=4) (hx:BdOk x) (b p q:Nat) (s:St) (w:World) (vv lv gv wv:Value) (h:BdOb w b x vv lv gv wv) (hA:Rar w p q s) (hp:b≠p) (hq:b≠q) (hV:Sq fI w vv x.versions) (hO:w.ownsRow 0 60 3 lv x.l.length (x.l.flatMap fT)) (nV:b∉vv.ownBlock.toList∧p∉vv.ownBlock.toList∧q∉vv.ownBlock.toList) (nL:b∉lv.ownBlock.toList∧p∉lv.ownBlock.toList∧q∉lv.ownBlock.toList) (nVL:∀ k,k∈vv.ownBlock.toList→k∉lv.ownBlock.toList) :
  Calls Tryz.prog 194 #[.pointer (some ⟨b,0,none⟩),.pointer (some ⟨p,0,none⟩)] w fun e w'=>e = .returned (.bool (decide ((x.step s).1.line=0)))∧(∃ lv' gv',BdOb w' b (x.step s).1 vv lv' gv' wv∧w'.ownsRow 0 60 3 lv' (x.step s).1.l.length ((x.step s).1.l.flatMap fT)∧(∀ k,k∈lv'.ownBlock.toList→k∈lv.ownBlock.toList∨w.heap.size≤k)∧(((x.step s).1.groups=x.groups∧gv'=gv)∨∃ ss,Sq fS w' gv' ss∧Gs w' ss (x.step s).1.groups∧(∀ k,k∈gv'.ownBlock.toList→w.heap.size≤k∧k<w'.heap.size)∧(∀ s,s∈ss→∀ k,k∈s.v.ownBlock.toList→w.heap.size≤k∧k<w'.heap.size)∧(∀ k,k∈lv'.ownBlock.toList→k∉gv'.ownBlock.toList∧∀ s,s∈ss→k∉s.v.ownBlock.toList)))∧Rar w' p q (x.step s).2∧Fr ([b,p,q]++lv.ownBlock.toList) w w':=by
 have hc:=hx.c
 generalize hy:x.step s=y
 have HY:=Lib.hid hy
 clear hy
 obtain ⟨al,cl,rfl,hcl,hml,-⟩:=id (Sq.own (f:=fT) hO)
 obtain ⟨c0,c1,c2,c3,c4,c5,c6,c7,c8,c9,c10,c11,c12,c13,c14,c15,c16,c17,c18,c19⟩:=bd_cells h
 rw [hl] at c8
 have z:=h.frozen
 go_enter Tryz.func194,Tryz.ntmps194
 go_wp2_with fail
 have k0:=In.cell c0
 have k1:=In.cell c1
 have k2:=In.cell c2
 have k3:=In.cell c3
 have k4:=In.cell c4
 have k5:=In.cell c5
 have k9:=In.cell c9
 clear c0 c1 c2 c3 c4 c5 c6 c7 c8 c9 c10 c11 c12 c13 c14 c15 c16 c17 c18 c19 z
 refine wi ?_
 repeat (go_big_quiet_step ((go_at_call 209;exact Calls.in_ (cellAt_any x.c _ _ _ hc _))))
 refine wpQuiet_nil ?_
 intro w0 F0
 rw [show cellAtP x.c x.chunk x.mate x.i=x.sa from rfl]
 have h0:BdOb w0 b x vv (.slice al x.l.length cl) gv wv:=Ob.up h F0
 have A0:=hA.kept F0
 have D0:Fr [b,p,q] w w0:=F0.mono
 clear k0 k1 k2 k3 k4 k5 k9 h hA F0
 obtain ⟨c0,c1,c2,c3,c4,c5,c6,c7,c8,c9,c10,c11,c12,c13,c14,c15,c16,c17,c18,c19⟩:=bd_cells h0
 rw [hl] at c8
 have z:=h0.frozen
 go_wp2_with fail
 clear c0 c1 c2 c3 c4 c5 c6 c7 c8 c9 c10 c11 c12 c13 c14 c15 c16 c17 c18 c19 z
 refine (Ref.load_any _ p q s _ A0).mono ?_;rintro e w5 ⟨rfl,A5,F5⟩
 have h5:BdOb w5 b x vv (.slice al x.l.length cl) gv wv:=Ob.kept h0 F5 (by simp;exact ⟨hp,hq⟩)
 have D5:=frSub D0 F5 (by simp)
 clear A0 h0 D0 F5
 obtain ⟨c0,c1,c2,c3,c4,c5,c6,c7,c8,c9,c10,c11,c12,c13,c14,c15,c16,c17,c18,c19⟩:=bd_cells h5
 have z:=h5.frozen
 generalize hv:peek s.l (wrap64 (x.sa+2))=v at *
 have HV:=Lib.hid hv
 clear hv
 go_wp2_with fail
 have h6:BdOb _ b { x with x:=⟨x.x.k,x.x.v,v⟩ } vv (.slice al x.l.length cl) gv wv:=Ob.set h5 (i:=14) (.int .i64 v)
 have A6:=Rar.set A5 hp hq (i:=14) (.int .i64 v)
 have D6:=Fr.setCell' D5 (b:=b) (i:=14) (.int .i64 v) (by simp)
 clear c0 c1 c2 c3 c4 c5 c6 c7 c8 c9 c10 c11 c12 c13 c14 c15 c16 c17 c18 c19 z h5 A5 D5
 generalize (w5.setCell ⟨b,14,none⟩ (.int .i64 v))=w6 at *
 have r6:=row_fr hO D6 (fun k hk hi=>by simp only [List.mem_cons,List.not_mem_nil,or_false] at hi;have hk2:k∈(Value.slice al x.l.length cl).ownBlock.toList:=(by rw [hk];simp);rcases hi with rfl | rfl | rfl;exact nL.1 hk2;exact nL.2.1 hk2;exact nL.2.2 hk2)
 have V6:=hV.kept D6 (fun k hk hi=>by simp only [List.mem_cons,List.not_mem_nil,or_false] at hi;rcases hi with rfl | rfl | rfl;exact nV.1 hk;exact nV.2.1 hk;exact nV.2.2 hk)
 have nb:=nL.1
 have hlx:=hx.l
 have HN:=Lib.hid (And.intro nV (And.intro nL nVL))
 clear hO hV nV nL nVL
 refine wp_region_free (by kernel_rfl) ?_
 refine any_envL (Value.slice al x.l.length cl).ownBlock.toList w6 #[true,true,true,true,true,true,true,true,true,true,true,false,false,false] 11 3 rfl ?_
 refine lp [true,true,true,true,true,true,true,true,true,false,false,false,false,false] 2 ((Fr.refl _ _).drew) ?_
 apply Exists.intro
 refine ⟨fun wf Ff=>?_,?_⟩
 ·obtain ⟨-,-,-,-,-,-,-,-,-,-,-,-,c12,c13,c14,c15,-,-,-,-⟩:=bd_cells (Ob.kept h6 Ff nb)
  have k12:=In.cell c12
  have k13:=In.cell c13
  have k14:=In.cell c14
  have k15:=In.cell c15
  clear c12 c13 c14 c15
  simp only [sel]
  repeat (go_big_quiet_step (fail))
  exact wpQuiet_nil rfl
 refine lo 9 (fun w10 F10=>?_)
 have G:=((Fr.refl (Value.slice al x.l.length cl).ownBlock.toList w6).drew).then F10
 have r10:=row_keeps r6 ((Fr.refl [] w6).drew.trans F10)
 clear F10
 go_wp2_with fail
 have F12:=(Fr.refl [] w10).alloc (.cells #[.int .i64 x.x.k,.int .i64 x.x.v,.int .i64 v] 60)
 have B12:=Go.heap_alloc_new w10 (.cells #[.int .i64 x.x.k,.int .i64 x.x.v,.int .i64 v] 60)
 have r12:=row_keeps r10 F12
 replace G:=G.then F12
 clear r10 F12
 refine nx_normal ⟨G,?_⟩
 refine lo 10 (fun w13 F13=>?_)
 have r22:=row_keeps r12 F13
 have B22:=F13.heap B12 (by simp)
 replace G:=G.then F13
 clear r12 B12 F13
 go_wp2_with (at_builtin;go_loud (refine wpList_appSqB fT_lays rfl _ _ 51 rfl Tryz.underlying51 itI rfl (B:=0) _ x.l rfl r22 _ [(⟨x.x.k,x.x.v,v⟩:It)] rfl (Sq.block B22 rfl rfl (Nat.le_refl _) (by simp [maxLen])) (by simp <;> omega) (by decide) (Nat.zero_le _) ?_);intro a23 c23 w23 r23 f23 n23)
 have HG0:=Lib.hid G.size
 have hb6:=Ob.lt h6
 have hb7:=G.size
 have nb23:b∉(Value.slice a23 (x.l++[(⟨x.x.k,x.x.v,v⟩:It)]).length c23).ownBlock.toList:=fun hi=>by rcases n23 b hi with h | h;exact nb h;omega
 have N23:=Lib.hid (fun k hk=>(n23 k hk).imp id (fun (e:k=_)=>(show w6.heap.size≤k by omega)))
 replace G:=G.trans f23
 clear f23 r22 B22 n23 hb6 hb7
 generalize hL2:x.l++[(⟨x.x.k,x.x.v,v⟩:It)]=l2 at *
 have HL2:=Lib.hid hL2
 have HLL:=Lib.hid (show l2.length=x.l.length+1 by rw [← hL2];simp)
 clear hL2
 refine nx_normal ⟨G,?_⟩
 refine envL_tail (k:=11) rfl (by kernel_rfl) (fun w15 F15=>?_)
 have r15:=row_keeps r23 F15
 replace G:=G.then F15
 clear r23 F15
 have h15:=Ob.kept h6 G nb
 have V15:=V6.kept G HN.out.2.2
 have A15:=A6.kept G HN.out.2.1.2.1 HN.out.2.1.2.2
 have z:=h15.frozen
 obtain ⟨c0,c1,c2,c3,c4,c5,c6,c7,c8,c9,c10,c11,c12,c13,c14,c15,c16,c17,c18,c19⟩:=bd_cells h15
 have D15:Fr ([b,p,q]++(Value.slice al x.l.length cl).ownBlock.toList) w w15:=(D6.mono (by intro k hk;simp at hk ⊢;rcases hk with h | h | h <;> simp [h])).trans (G.mono (by intro k hk;simp at hk ⊢;simp [hk]))
 have D6s:=Lib.hid D6.size
 clear h6 V6 A6 D6 G
 go_wp2_with fail
 have r16:w15.ownsRow 0 60 3 (.slice a23 (x.l.length+1) c23) l2.length (l2.flatMap fT):=by rw [← HLL.out];exact r15
 rw [HLL.out] at nb23
 have h16:BdOb _ b { x with x:=⟨x.x.k,x.x.v,v⟩,l:=l2 } vv (.slice a23 (x.l.length+1) c23) gv wv:=Ob.set h15 (i:=15) (.slice a23 (x.l.length+1) c23)
 have SF:Fr [b] w15 (w15.setCell ⟨b,15,none⟩ (.slice a23 (x.l.length+1) c23)):=Fr.setCell _ (by simp)
 have A16:=Rar.set A15 hp hq (i:=15) (.slice a23 (x.l.length+1) c23)
 have r17:=row_fr r16 SF (fun g hg hi=>nb23 (by simp at hi;subst hi;rw [hg];simp))
 have V17:=V15.kept SF (fun k hk hi=>by simp at hi;subst hi;exact HN.out.1.1 hk)
 have D16:Fr ([b,p,q]++(Value.slice al x.l.length cl).ownBlock.toList) w _:=D15.trans (SF.mono (by intro k hk;simp at hk;simp [hk]))
 clear c0 c1 c2 c3 c4 c5 c6 c7 c8 c9 c10 c11 c12 c13 c14 c15 c16 c17 c18 c19 z h15 A15 D15 SF r16 r15 V15
 generalize (w15.setCell ⟨b,15,none⟩ (.slice a23 (x.l.length+1) c23))=w16 at *
 have hi0:=hx.i0
 have hi1:=hx.i1
 have hvl:=hx.v
 have hll:=HLL.out
 refine (build_on { x with x:=⟨x.x.k,x.x.v,v⟩,l:=l2 } hc ⟨by simp only;omega,by simp only;omega⟩ (by simp only;omega) (by simp only;omega) b _ vv _ gv wv h16 V17 (Sq.own (f:=fT) r17) HN.out.1.1 nb23).mono ?_;rintro e w7 ⟨rfl,⟨gv',h7,hg⟩,F7⟩
 have A7:=A16.kept F7 (by simp;exact Ne.symm hp) (by simp;exact Ne.symm hq)
 have D7:=D16.trans (F7.mono (T:=[b,p,q]++(Value.slice al x.l.length cl).ownBlock.toList) (by intro k hk;simp at hk;simp [hk]))
 have r7:=row_fr r17 F7 (fun g hg hi=>nb23 (by simp at hi;subst hi;rw [hg];simp))
 have HG:=Lib.hid hg
 have HW:=Lib.hid (And.intro D16.size (And.intro r7 (row_lt r17)))
 have hlo:(Bd.on { x with x:=⟨x.x.k,x.x.v,v⟩,l:=l2 }).l=l2:=by unfold Bd.on;split <;> rfl
 have hgo:({ x with x:=⟨x.x.k,x.x.v,v⟩,l:=l2 }:Bd).groups=x.groups:=rfl
 generalize hyo:Bd.on { x with x:=⟨x.x.k,x.x.v,v⟩,l:=l2 } = yo at *
 have HYO:=Lib.hid (And.intro hyo hlo)
 clear h16 A16 D16 V17 r17 r7 hg F7 hi0 hi1 hvl hll hyo hlo hgo nb23
 obtain ⟨c0,c1,c2,c3,c4,c5,c6,c7,c8,c9,c10,c11,c12,c13,c14,c15,c16,c17,c18,c19⟩:=bd_cells h7
 have z:=h7.frozen
 go_wp2_with fail
 go_ret
 have hn:y=(yo,s.load (wrap64 (x.sa+2))):=by rw [← HY.out,← HYO.out.1,← HL2.out];unfold Bd.step;simp [hl,HV.out]
 subst hn
 refine ⟨rfl,⟨_,gv',h7,?_,?_,?_⟩,A7,D7⟩
 ·rw [HYO.out.2];exact HW.out.2.1
 ·rw [← HLL.out];exact fun k hk=>(N23.out k hk).imp id (fun e=>Nat.le_trans D6s.out e)
 ·refine HG.out.imp id (fun ⟨ss,a1,a2,a3,a4⟩=>⟨ss,a1,a2,fun k hk=>⟨Nat.le_trans HW.out.1 (a3 k hk).1,(a3 k hk).2⟩,fun s hs k hk=>⟨Nat.le_trans HW.out.1 (a4 s hs k hk).1,(a4 s hs k hk).2⟩,fun k hk=>⟨fun hi=>?_,fun s hs hi=>?_⟩⟩)
  ·have h1:=HW.out.2.2 k hk;have h2:=(a3 k hi).1;omega
  ·have h1:=HW.out.2.2 k hk;have h2:=(a4 s hs k hi).1;omega
theorem chunksT_its {c:Cf} {cap:Nat} (hc:c.c=(cap:Int)) (at_ after least:Int) (gs:List (List It)):∀ n,n∈chunksT c at_ after least gs→n.its.length≤cap:=by
 intro n hn
 unfold chunksT at hn
 split at hn
 ·rename_i ha
  have h2:∀ g,g∈gs→g.length≤cap:=fun g hg=>by
   have h3:=List.all_eq_true.1 ha g hg
   have h4:(g.length:Int)≤c.c:=by simpa using h3
   rw [hc] at h4;omega
  clear ha
  generalize minsT least gs=ms at hn
  induction gs generalizing at_ ms with
  | nil=>simp [chunksF] at hn
  | cons g r ih =>
   unfold chunksF at hn
   rcases List.mem_cons.1 hn with rfl | hn
   ·exact h2 g (by simp)
   ·exact ih _ (fun g' hg'=>h2 g' (by simp [hg'])) _ hn
 ·simp at hn
theorem chunksT_len (c:Cf) (at_ after least:Int) (gs:List (List It)):(chunksT c at_ after least gs).length≤gs.length:=by
 unfold chunksT
 split
 ·rw [chunksF_length];exact Nat.le_refl _
 ·simp
theorem size_mul {g:Nat} {c:Int} (hg:g≤100) (h2:0≤c) (h16:c≤16):wrap64 ((g:Int) * (7+3 * c))=(g:Int) * (7+3 * c)∧0≤(g:Int) * (7+3 * c)∧(g:Int) * (7+3 * c)≤5500:=by
 have h0:0≤(g:Int) * (7+3 * c):=Int.mul_nonneg (by omega) (by omega)
 have h1:(g:Int) * (7+3 * c)≤100 * 55:=Int.mul_le_mul (by omega) (by omega) (by omega) (by omega)
 exact ⟨w64 (by omega) (by omega),h0,by omega⟩
theorem build_5 (x:Bd) (hl:x.line=5) (hx:BdOk x) (hgl:x.groups.length≤100) (hgf:x.groups.flatten.length≤1000) (b p q:Nat) (s:St) (w:World) (vv lv gv wv:Value) (h:BdOb w b x vv lv gv wv) (hA:Rar w p q s) (hp:b≠p) (hq:b≠q) (ss:List Sv) (hG:Sq fS w gv ss) (hGs:Gs w ss x.groups) (nG:b∉gv.ownBlock.toList∧p∉gv.ownBlock.toList∧q∉gv.ownBlock.toList) (hnG:∀ s,s∈ss→b∉s.v.ownBlock.toList∧p∉s.v.ownBlock.toList∧q∉s.v.ownBlock.toList) :
  Calls Tryz.prog 194 #[.pointer (some ⟨b,0,none⟩),.pointer (some ⟨p,0,none⟩)] w fun e w'=>e = .returned (.bool (decide ((x.step s).1.line=0)))∧(∃ wv',BdOb w' b (x.step s).1 vv lv gv wv'∧(((x.step s).1.w=x.w∧wv'=wv)∨(Sq fQ w' wv' (x.step s).1.w∧∀ k,k∈wv'.ownBlock.toList→w.heap.size≤k∧k<w'.heap.size)))∧Rar w' p q (x.step s).2∧Fr [b,p,q] w w':=by
 have hc:=hx.c
 generalize hy:x.step s=y
 have HY:=Lib.hid hy
 clear hy
 obtain ⟨ag,cg,rfl,hcg,hmg,-⟩:=id hG
 have hsl:=hGs.1
 have HGS:=Lib.hid (And.intro hG (And.intro hGs (And.intro nG hnG)))
 rw [hsl] at h hcg ⊢
 have hcw:=hx.c.w2
 have hcw1:=hx.c.w1
 have hc16:=hx.c.c16
 have hc2:=hx.c.c2
 have hct:=hx.c.t1
 clear hG hGs nG hsl hnG
 obtain ⟨c0,c1,c2,c3,c4,c5,c6,c7,c8,c9,c10,c11,c12,c13,c14,c15,c16,c17,c18,c19⟩:=bd_cells h
 rw [hl] at c8
 have z:=h.frozen
 go_enter Tryz.func194,Tryz.ntmps194
 go_wp2_with fail
 have k0:=In.cell c0
 have k1:=In.cell c1
 have k2:=In.cell c2
 have k3:=In.cell c3
 have k4:=In.cell c4
 have k5:=In.cell c5
 have k9:=In.cell c9
 clear c0 c1 c2 c3 c4 c5 c6 c7 c8 c9 c10 c11 c12 c13 c14 c15 c16 c17 c18 c19 z
 refine wi ?_
 repeat (go_big_quiet_step ((go_at_call 209;exact Calls.in_ (cellAt_any x.c _ _ _ hc _))))
 refine wpQuiet_nil ?_
 intro w0 F0
 rw [show cellAtP x.c x.chunk x.mate x.i=x.sa from rfl]
 have h0:BdOb w0 b x vv lv (.slice ag x.groups.length cg) wv:=Ob.up h F0
 have A0:=hA.kept F0
 have D0:Fr [b,p,q] w w0:=F0.mono
 clear k0 k1 k2 k3 k4 k5 k9 h hA F0
 obtain ⟨c0,c1,c2,c3,c4,c5,c6,c7,c8,c9,c10,c11,c12,c13,c14,c15,c16,c17,c18,c19⟩:=bd_cells h0
 rw [hl] at c8
 have z:=h0.frozen
 go_wp2_with fail
 have k0:=In.cell c0
 have k1:=In.cell c1
 have k2:=In.cell c2
 have k3:=In.cell c3
 have k16:=In.cell c16
 clear c0 c1 c2 c3 c4 c5 c6 c7 c8 c9 c10 c11 c12 c13 c14 c15 c16 c17 c18 c19 z
 refine wi ?_
 repeat (go_big_quiet_step ((go_at_call 101;exact Calls.in_ (Ref.size_any _ _ _ _ (by omega) (by omega) _))))
 refine wpQuiet_nil ?_
 intro w1 F1
 have h1:BdOb w1 b x vv lv (.slice ag x.groups.length cg) wv:=Ob.up h0 F1
 have A1:=A0.kept F1
 have D1:Fr [b,p,q] w w1:=D0.then F1
 clear k0 k1 k2 k3 k16 h0 A0 D0 F1
 obtain ⟨c0,c1,c2,c3,c4,c5,c6,c7,c8,c9,c10,c11,c12,c13,c14,c15,c16,c17,c18,c19⟩:=bd_cells h1
 have z:=h1.frozen
 obtain ⟨hz1,hz2,hz3⟩:=size_mul (c:=x.c.c) hgl (by omega) (by omega)
 rw [hz1]
 generalize hN:(x.groups.length:Int) * (7+3 * x.c.c)=N at *
 have HN:=Lib.hid (And.intro hN hz1)
 clear hN hz1
 go_wp2_with fail
 clear c0 c1 c2 c3 c4 c5 c6 c7 c8 c9 c10 c11 c12 c13 c14 c15 c16 c17 c18 c19 z
 refine (Ref.add_any _ p q s _ _ A1).mono ?_;rintro e w5 ⟨rfl,A5,F5⟩
 have h5:BdOb w5 b x vv lv (.slice ag x.groups.length cg) wv:=Ob.kept h1 F5 (by simp;exact ⟨hp,hq⟩)
 have D5:=frSub D1 F5 (by simp)
 clear A1 h1 D1 F5
 obtain ⟨c0,c1,c2,c3,c4,c5,c6,c7,c8,c9,c10,c11,c12,c13,c14,c15,c16,c17,c18,c19⟩:=bd_cells h5
 have z:=h5.frozen
 generalize hv:peek s.l 2=v at *
 have HV:=Lib.hid hv
 clear hv
 go_wp2_with fail
 have h6:BdOb _ b { x with at_:=v } vv lv (.slice ag x.groups.length cg) wv:=Ob.set h5 (i:=11) (.int .i64 v)
 have A6:=Rar.set A5 hp hq (i:=11) (.int .i64 v)
 have D6:=Fr.setCell' D5 (b:=b) (i:=11) (.int .i64 v) (by simp)
 clear c0 c1 c2 c3 c4 c5 c6 c7 c8 c9 c10 c11 c12 c13 c14 c15 c16 c17 c18 c19 z h5 A5 D5
 generalize (w5.setCell ⟨b,11,none⟩ (.int .i64 v))=w6 at *
 have G6:Sq fS w6 (.slice ag x.groups.length cg) ss:=by have hk:=HGS.out.1.kept D6 (fun k hk hi=>by simp only [List.mem_cons,List.not_mem_nil,or_false] at hi;rcases hi with rfl | rfl | rfl;exact HGS.out.2.2.1.1 hk;exact HGS.out.2.2.1.2.1 hk;exact HGS.out.2.2.1.2.2 hk);rw [HGS.out.2.1.1] at hk;exact hk
 have S6:=HGS.out.2.1.kept D6 (fun s hs k hk hi=>by simp only [List.mem_cons,List.not_mem_nil,or_false] at hi;have h9:=HGS.out.2.2.2 s hs;rcases hi with rfl | rfl | rfl;exact h9.1 hk;exact h9.2.1 hk;exact h9.2.2 hk)
 obtain ⟨cap,hcap⟩:∃ cap:Nat,x.c.c=(cap:Int):=⟨x.c.c.toNat,by omega⟩
 have HCP:=Lib.hid (And.intro hcap (And.intro (show 1≤cap by omega) (show cap≤16 by omega)))
 clear hcap
 refine wp_region_env (by kernel_rfl) [] (fun w7 F7=>?_)
 refine ep [true,true,true,true,true,true,true,true,true,true,true,true,true,true,true,true,true,true,true,true,false,false] 2 F7 ?_
 apply Exists.intro
 refine ⟨fun wf Ff=>?_,?_⟩
 ·obtain ⟨c0,c1,c2,c3,-,-,c6,-,-,-,c10,c11,-,-,-,-,c16,-,-,-⟩:=bd_cells (Ob.up h6 Ff)
  have k0:=In.cell c0
  have k1:=In.cell c1
  have k2:=In.cell c2
  have k3:=In.cell c3
  have k6:=In.cell c6
  have k10:=In.cell c10
  have k11:=In.cell c11
  have k16:=In.cell c16
  clear c0 c1 c2 c3 c6 c10 c11 c16
  simp only [sel]
  repeat (go_big_quiet_step (fail))
  exact wpQuiet_nil rfl
 refine eo 20 (fun w8 F8=>?_)
 have E8:=F7.trans F8
 clear F7 F8
 go_wp2_with fail
 refine (rchunks_any x.c cap v x.after x.mn x.groups ss _ _ HCP.out.1 HCP.out.2.1 HCP.out.2.2 (by omega) hgf (G6.up E8) (S6.up E8)).mono ?_
 rintro e w9 ⟨⟨r,xs,rfl,hr9,hx9⟩,F9⟩
 replace E8:=E8.trans F9
 clear F9
 obtain ⟨ar,cr,rfl,hcr,hmr,-⟩:=id (Sq.own (f:=fH) hr9)
 have hns:=chunksT_len x.c (wrap64 v) x.after x.mn x.groups
 have HIT:=Lib.hid (chunksT_its HCP.out.1 (wrap64 v) x.after x.mn x.groups)
 generalize hNS:chunksT x.c (wrap64 v) x.after x.mn x.groups=ns at *
 have HNS:=Lib.hid (And.intro hNS hns)
 clear hNS hns
 go_wp2_with fail
 refine nx_normal ⟨E8,?_⟩
 refine eo 21 (fun wx Fx=>?_)
 replace E8:=E8.trans Fx
 have r10:=row_keeps hr9 Fx
 have x10:=hx9.up Fx
 clear Fx hr9 hx9
 go_wp2_with fail
 refine nx_normal ⟨E8,?_⟩
 refine env_done (by kernel_rfl) (fun w11 F11=>?_)
 replace E8:=E8.trans F11
 have h11:=Ob.up h6 E8
 have A11:=A6.kept E8
 have D11:=D6.then E8
 have HX:=Lib.hid (And.intro (row_keeps r10 F11) (And.intro (x10.up F11) (Nat.le_trans D6.size E8.size)))
 have hxl:=x10.1
 clear r10 x10 F11 E8 h6 A6 D6 G6 S6
 have HXL:=Lib.hid hxl
 clear hxl
 obtain ⟨c0,c1,c2,c3,-,-,-,-,-,-,-,c11,-,-,-,-,-,-,-,-⟩:=bd_cells h11
 go_wp2_with fail
 by_cases h1:v<1
 ·have g1:decide (v<1)=true:=by simpa using h1
  have k2:=In.cell c2
  have k11:=In.cell c11
  clear c0 c1 c2 c3 c11
  refine wi ?_
  repeat (go_big_quiet_step (fail))
  refine wpQuiet_nil ?_
  intro w12 F12
  have h12:=Ob.up h11 F12
  have A12:=A11.kept F12
  have D12:=D11.then F12
  have HX2:=Lib.hid (And.intro (row_keeps HX.out.1 F12) (And.intro (HX.out.2.1.up F12) (Nat.le_trans HX.out.2.2 F12.size)))
  clear k2 k11 h11 A11 D11 F12
  obtain ⟨c0,c1,c2,c3,c4,c5,c6,c7,c8,c9,c10,c11,c12,c13,c14,c15,c16,c17,c18,c19⟩:=bd_cells h12
  have z:=h12.frozen
  go_wp2_with fail
  go_ret
  have hn:y=({ x with at_:=v,e:=14,line:=0 },s.add 2 N):=by
   rw [← HY.out];unfold Bd.step;rw [if_neg (by omega),if_neg (by omega),if_neg (by omega),if_neg (by omega),if_pos hl]
   have e1:(x.groups.length:Int) * sizeP x.c=N:=HN.out.1
   unfold Bd.five
   rw [HV.out,e1]
   simp only
   rw [HNS.out.1,if_pos (.inl h1)]
  subst hn
  exact ⟨rfl,⟨wv,Ob.set (Ob.set h12 (i:=19) (.int .i64 14)) (i:=8) (.int .i64 0),.inl ⟨rfl,rfl⟩⟩,Rar.set (Rar.set A12 hp hq (i:=19) (.int .i64 14)) hp hq (i:=8) (.int .i64 0),Fr.setCell' (Fr.setCell' D12 (b:=b) (i:=19) (.int .i64 14) (by simp)) (b:=b) (i:=8) (.int .i64 0) (by simp)⟩
 ·have g1:decide (v<1)=false:=by simpa using h1
  by_cases h2:x.c.wd - N<v
  ·have g2:decide (v>x.c.wd - N)=true:=by simpa using h2
   have k2:=In.cell c2
   have k11:=In.cell c11
   clear c0 c1 c2 c3 c11
   refine wi ?_
   repeat (go_big_quiet_step (fail))
   refine wpQuiet_nil ?_
   intro w12 F12
   have h12:=Ob.up h11 F12
   have A12:=A11.kept F12
   have D12:=D11.then F12
   have HX2:=Lib.hid (And.intro (row_keeps HX.out.1 F12) (And.intro (HX.out.2.1.up F12) (Nat.le_trans HX.out.2.2 F12.size)))
   clear k2 k11 h11 A11 D11 F12
   obtain ⟨c0,c1,c2,c3,c4,c5,c6,c7,c8,c9,c10,c11,c12,c13,c14,c15,c16,c17,c18,c19⟩:=bd_cells h12
   have z:=h12.frozen
   go_wp2_with fail
   go_ret
   have hn:y=({ x with at_:=v,e:=14,line:=0 },s.add 2 N):=by
    rw [← HY.out];unfold Bd.step;rw [if_neg (by omega),if_neg (by omega),if_neg (by omega),if_neg (by omega),if_pos hl]
    have e1:(x.groups.length:Int) * sizeP x.c=N:=HN.out.1
    unfold Bd.five
    rw [HV.out,e1]
    simp only
    rw [HNS.out.1,if_pos (.inr (.inl h2))]
   subst hn
   exact ⟨rfl,⟨wv,Ob.set (Ob.set h12 (i:=19) (.int .i64 14)) (i:=8) (.int .i64 0),.inl ⟨rfl,rfl⟩⟩,Rar.set (Rar.set A12 hp hq (i:=19) (.int .i64 14)) hp hq (i:=8) (.int .i64 0),Fr.setCell' (Fr.setCell' D12 (b:=b) (i:=19) (.int .i64 14) (by simp)) (b:=b) (i:=8) (.int .i64 0) (by simp)⟩
  ·have g2:decide (v>x.c.wd - N)=false:=by simpa using h2
   by_cases h3:xs.length=0
   ·have h3z:((xs.length:Nat):Int)=0:=by omega
    have HN0:=Lib.hid (show ns=[] from List.eq_nil_of_length_eq_zero (by rw [← HXL.out];exact h3))
    have k2:=In.cell c2
    have k11:=In.cell c11
    clear c0 c1 c2 c3 c11
    refine wi ?_
    repeat (go_big_quiet_step (fail))
    refine wpQuiet_nil ?_
    intro w12 F12
    have h12:=Ob.up h11 F12
    have A12:=A11.kept F12
    have D12:=D11.then F12
    have HX2:=Lib.hid (And.intro (row_keeps HX.out.1 F12) (And.intro (HX.out.2.1.up F12) (Nat.le_trans HX.out.2.2 F12.size)))
    clear k2 k11 h11 A11 D11 F12
    obtain ⟨c0,c1,c2,c3,c4,c5,c6,c7,c8,c9,c10,c11,c12,c13,c14,c15,c16,c17,c18,c19⟩:=bd_cells h12
    have z:=h12.frozen
    go_wp2_with fail
    go_ret
    have hn:y=({ x with at_:=v,e:=14,line:=0 },s.add 2 N):=by
     rw [← HY.out];unfold Bd.step;rw [if_neg (by omega),if_neg (by omega),if_neg (by omega),if_neg (by omega),if_pos hl]
     have e1:(x.groups.length:Int) * sizeP x.c=N:=HN.out.1
     unfold Bd.five
     rw [HV.out,e1]
     simp only
     rw [HNS.out.1,if_pos (.inr (.inr HN0.out))]
    subst hn
    exact ⟨rfl,⟨wv,Ob.set (Ob.set h12 (i:=19) (.int .i64 14)) (i:=8) (.int .i64 0),.inl ⟨rfl,rfl⟩⟩,Rar.set (Rar.set A12 hp hq (i:=19) (.int .i64 14)) hp hq (i:=8) (.int .i64 0),Fr.setCell' (Fr.setCell' D12 (b:=b) (i:=19) (.int .i64 14) (by simp)) (b:=b) (i:=8) (.int .i64 0) (by simp)⟩
   ·have h3z:¬ ((xs.length:Nat):Int)=0:=by omega
    have HN0:=Lib.hid (show ¬ ns=[] from fun e=>h3 (by rw [HXL.out,e];rfl))
    have k2:=In.cell c2
    have k11:=In.cell c11
    clear c0 c1 c2 c3 c11
    refine wi ?_
    repeat (go_big_quiet_step (fail))
    refine wpQuiet_nil ?_
    intro w12 F12
    have h12:=Ob.up h11 F12
    have A12:=A11.kept F12
    have D12:=D11.then F12
    have HX2:=Lib.hid (And.intro (row_keeps HX.out.1 F12) (And.intro (HX.out.2.1.up F12) (Nat.le_trans HX.out.2.2 F12.size)))
    clear k2 k11 h11 A11 D11 F12
    obtain ⟨c0,c1,c2,c3,c4,c5,c6,c7,c8,c9,c10,c11,c12,c13,c14,c15,c16,c17,c18,c19⟩:=bd_cells h12
    have z:=h12.frozen
    clear c0 c1 c2 c3 c4 c5 c6 c7 c8 c9 c10 c11 c12 c13 c14 c15 c16 c17 c18 c19 z
    go_wp2_with fail
    refine (words_any cap ns xs _ w12 HCP.out.2.2 (by have:=HNS.out.2;omega) HIT.out (Sq.own (f:=fH) HX2.out.1) HX2.out.2.1).mono ?_;rintro e w13 ⟨⟨u,rfl,r13⟩,F13⟩
    have h13:=Ob.up h12 F13
    have A13:=A12.kept F13
    have D13:=D12.then F13
    have z:=h13.frozen
    obtain ⟨c0,c1,c2,c3,c4,c5,c6,c7,c8,c9,c10,c11,c12,c13,c14,c15,c16,c17,c18,c19⟩:=bd_cells h13
    obtain ⟨uw,cw,rfl,hcw9,hmw9,-⟩:=id (Sq.own (f:=fQ) r13)
    have nw:=row_ne r13 h13 (by decide)
    have HR13:=Lib.hid (And.intro r13 HX2.out.2.2)
    clear h12 A12 D12 F13 r13
    generalize hWT:wordsT ns=wt at *
    have HWT:=Lib.hid hWT
    clear hWT
    go_wp2_with fail
    go_ret
    have hn:y=({ x with at_:=v,w:=wt,i:=0,line:=6 },s.add 2 N):=by
     rw [← HY.out];unfold Bd.step;rw [if_neg (by omega),if_neg (by omega),if_neg (by omega),if_neg (by omega),if_pos hl]
     have e1:(x.groups.length:Int) * sizeP x.c=N:=HN.out.1
     unfold Bd.five
     rw [HV.out,e1]
     simp only
     rw [HNS.out.1,HWT.out,if_neg (by rintro (h | h | h);omega;omega;exact HN0.out h)]
    subst hn
    have SF:Fr [b] w13 (((w13.setCell ⟨b,17,none⟩ (.slice uw wt.length cw)).setCell ⟨b,9,none⟩ (.int .i64 0)).setCell ⟨b,8,none⟩ (.int .i64 6)):=((Fr.setCell _ (by simp)).setCell' _ (by simp)).setCell' _ (by simp)
    exact ⟨rfl,⟨_,Ob.set (Ob.set (Ob.set h13 (i:=17) (.slice uw wt.length cw)) (i:=9) (.int .i64 0)) (i:=8) (.int .i64 6),.inr ⟨(Sq.own (f:=fQ) HR13.out.1).kept SF (fun k hk hi=>by simp at hi;subst hi;exact nw hk),fun k hk=>⟨Nat.le_trans HR13.out.2 (row_base HR13.out.1 k (by simpa using hk)),Nat.lt_of_lt_of_le (row_lt HR13.out.1 k (by simpa using hk)) SF.size⟩⟩⟩,Rar.set (Rar.set (Rar.set A13 hp hq (i:=17) (.slice uw wt.length cw)) hp hq (i:=9) (.int .i64 0)) hp hq (i:=8) (.int .i64 6),D13.trans (SF.mono)⟩
end Go.Proofs.YtilipdnchflkhaaGreatDoor.Mx
