/- The developers' claim, wherever it lies: each of its calls. -/
import Derived.Test.YthokjbikomjhgaaGreatDoorVac
import Derived.Test.YthokjbikomjhgaaGreatDoorVaa
import Derived.Test.YthokjbikomjhgaaGreatDoorVaj
import Derived.Test.YthokjbikomjhgaaGreatDoorZTabU
import Derived.Test.YthokjbikomjhgaaGreatDoorVaf
import Derived.RegionTactic
import Derived.Deep.RegionHeld3
import Derived.Deep.QuietTactic
namespace Go.Proofs.YthokjbikomjhgaaGreatDoor.Kc_u
open Go.RowKit Ar Mx
set_option linter.unusedVariables false
set_option linter.unusedSimpArgs false
theorem heldI_hd (n:Int) {a b:Int} (h:a≤b):Word.Qa a b n=hd n a b:=by unfold Word.Qa hd;split <;> split <;> omega
theorem claimI_eq (s p:Int):Word.qdy s p=wu s p:=by unfold Word.qdy wu;rw [heldI_hd _ (by decide),heldI_hd _ (by decide)]
theorem claim9 (s p:Int) (w:World) (t:Word.Tab w):Calls Tryz.prog 204 #[.int .i64 s,.int .i64 p] w fun e w'=>e = .returned (.int .i64 (wu s p))∧Fr [] w w' :=
 (Word.Xk s p w t).mono fun e w' ⟨h,d⟩=>⟨by rw [h,claimI_eq],Gq_u.fr_dr d⟩
structure Cm where
 vs:Int
 ps:Int
 sq:Int
 ln:Int
 f0:Int
 f1:Int
 f2:Int
 f3:Int
 f4:Int
def Cm.cells (y:Cm):Array Value:=#[.int .i64 y.vs,.int .i64 y.ps,.int .i64 y.sq,.int .i64 y.ln,.int .i64 y.f0,.int .i64 y.f1,.int .i64 y.f2,.int .i64 y.f3,.int .i64 y.f4]
def CmAt (w:World) (b:Nat) (T:TypeId) (pre post:Array Value) (y:Cm):Prop:=Pb w b T pre post y.cells
def Cm.act (y:Cm) (s:St):St:=if y.ln=0 then s.load 1 else if y.ln=1 then s.store y.ps (wu y.sq 1) else if y.ln=2 then s.add 1 1 else if y.ln=3 then s.swap y.ps (wu y.sq 1) (wu y.sq (wrap64 (y.f2+2))) else s.load y.ps
def Cm.told (y:Cm) (s:St):Int:=if y.ln=0 then qw s.l 1 else if y.ln=1 then 0 else if y.ln=2 then qw s.l 1 else if y.ln=3 then 0 else qw s.l y.ps
def Cm.put (y:Cm) (v:Int):Cm:=if y.ln=0 then { y with f0:=v } else if y.ln=1 then { y with f1:=v } else if y.ln=2 then { y with f2:=v } else if y.ln=3 then { y with f3:=v } else { y with f4:=v }
def Cm.behL (y:Cm):Int:=if y.vs≤y.f0 then 5 else wrap64 (y.ln+1)
def Cm.step (y:Cm) (s:St):Cm:={ y.put (y.told s) with ln:=(y.put (y.told s)).behL }
section
variable {w:World} {b o p q:Nat} {T:TypeId} {pre post:Array Value} {y:Cm} {s:St}
theorem cm_cells (h:CmAt w b T pre post y) (ho:pre.size=o):w.cell? ⟨b,o,none⟩=some (.int .i64 y.vs)∧w.cell? ⟨b,o+1,none⟩=some (.int .i64 y.ps)∧w.cell? ⟨b,o+2,none⟩=some (.int .i64 y.sq)∧w.cell? ⟨b,o+3,none⟩=some (.int .i64 y.ln)∧w.cell? ⟨b,o+4,none⟩=some (.int .i64 y.f0)∧w.cell? ⟨b,o+4+1,none⟩=some (.int .i64 y.f1)∧w.cell? ⟨b,o+4+2,none⟩=some (.int .i64 y.f2)∧w.cell? ⟨b,o+4+3,none⟩=some (.int .i64 y.f3)∧w.cell? ⟨b,o+4+4,none⟩=some (.int .i64 y.f4) :=
 ⟨h.cell (i:=0) ho rfl,h.cell (i:=1) ho rfl,h.cell (i:=2) ho rfl,h.cell (i:=3) ho rfl,h.cell (i:=4) ho rfl,h.cell (i:=5) ho rfl,h.cell (i:=6) ho rfl,h.cell (i:=7) ho rfl,h.cell (i:=8) ho rfl⟩
theorem none_any (h:CmAt w b T pre post y) (ho:pre.size=o):Calls Tryz.prog 130 #[.pointer (some ⟨b,o,none⟩)] w fun e w'=>e = .returned (.bool (decide (y.vs≤y.f0)))∧Fr [] w w':=by
 obtain ⟨c0,-,-,-,c4,-⟩:=cm_cells h ho
 have k0:=qb c0
 have k4:=qb c4
 clear c0 c4 h
 go_enter Tryz.func130,Tryz.ntmps130
 go_wp2_with fail
 refine R7 (by kernel_rfl) (by kernel_rfl) ?_
 repeat (go_big_quiet_step (fail))
 refine wpQuiet_nil ?_
 intro w2 F2
 go_wp2
 go_ret
 exact ⟨rfl,F2⟩
theorem beh_any (h:CmAt w b T pre post y) (ho:pre.size=o):Calls Tryz.prog 126 #[.pointer (some ⟨b,o,none⟩)] w fun e w'=>e = .returned (.int .i64 y.behL)∧Fr [] w w':=by
 have HN:=q9 (none_any h ho)
 have HH:=q9 (qc h ho)
 unfold Cm.behL
 by_cases e:y.vs≤y.f0
 ·rw [qf e]
  have g:decide (y.vs≤y.f0)=true:=by simpa using e
  rw [g] at HN
  clear h e g ho
  go_enter Tryz.func126,Tryz.ntmps126
  go_wp2_with fail
  refine HN.out.mono ?_;rintro e w2 ⟨rfl,F2⟩
  go_wp2
  go_ret
  exact ⟨rfl,F2⟩
 ·rw [qd e]
  have g:decide (y.vs≤y.f0)=false:=by simpa using e
  rw [g] at HN
  clear h e g ho
  go_enter Tryz.func126,Tryz.ntmps126
  go_wp2_with fail
  refine HN.out.mono ?_;rintro e w2 ⟨rfl,F2⟩
  obtain ⟨c0,c1,c2,c3,-⟩:=cm_cells (Pb.up HH.out.1 F2) HH.out.2
  go_wp2
  go_ret
  exact ⟨rfl,F2⟩
theorem clm_any (v:Int) (t:Word.Tab w) (h:CmAt w b T pre post y) (ho:pre.size=o):Calls Tryz.prog 179 #[.pointer (some ⟨b,o,none⟩),.int .i64 v] w fun e w'=>e = .returned (.int .i64 (wu y.sq v))∧Fr [] w w':=by
 obtain ⟨c0,c1,c2,-⟩:=cm_cells h ho
 have HN:=q9 (claim9 y.sq v w t)
 clear h c0 c1 t
 go_enter Tryz.func179,Tryz.ntmps179
 go_wp2_with fail
 refine HN.out.mono ?_;rintro e w2 ⟨rfl,F2⟩
 go_wp2
 go_ret
 exact ⟨rfl,F2⟩
theorem acc0 (hl:y.ln=0) (t:Word.Tab w) (h:CmAt w b T pre post y) (ho:pre.size=o) (hA:Ar w p q s):Calls Tryz.prog 125 #[.pointer (some ⟨b,o,none⟩),.pointer (some ⟨p,0,none⟩)] w fun e w'=>e = .returned (.int .i64 (y.told s))∧Ar w' p q (y.act s)∧Fr [p,q] w w':=by
 have et:y.told s=qw s.l 1:=by unfold Cm.told;simp [hl]
 have ea:y.act s=s.load 1:=by unfold Cm.act;simp [hl]
 rw [et,ea]
 obtain ⟨c0,c1,c2,c3,c4,c5,c6,c7,c8⟩:=cm_cells h ho
 rw [hl] at c3
 clear et ea hl
 clear h t c0 c1 c2 c4 c5 c6 c7 c8
 go_enter Tryz.func125,Tryz.ntmps125
 go_wp2_with fail
 refine (Ar.zl _ p q s _ hA).mono ?_;rintro e w4 ⟨rfl,A4,F4⟩
 go_wp2
 go_ret
 exact ⟨rfl,A4,F4⟩
set_option maxRecDepth 100000 in
theorem acc1 (hl:y.ln=1) (t:Word.Tab w) (h:CmAt w b T pre post y) (ho:pre.size=o) (hA:Ar w p q s) (hne:b≠p∧b≠q) (hg:2≠p∧2≠q):Calls Tryz.prog 125 #[.pointer (some ⟨b,o,none⟩),.pointer (some ⟨p,0,none⟩)] w fun e w'=>e = .returned (.int .i64 (y.told s))∧Ar w' p q (y.act s)∧Fr [p,q] w w':=by
 have et:y.told s=0:=by unfold Cm.told;simp [hl]
 have ea:y.act s=s.store y.ps (wu y.sq 1):=by unfold Cm.act;simp [hl]
 rw [et,ea]
 obtain ⟨c0,c1,c2,c3,c4,c5,c6,c7,c8⟩:=cm_cells h ho
 rw [hl] at c3
 clear et ea hl
 go_enter Tryz.func125,Tryz.ntmps125
 go_wp2_with fail
 refine qp (by kernel_rfl) ?_
 refine za [p,q] w #[true,true,true,true,true,true,true,false] 7 1 rfl ?_
 refine envT_pass [true,true,true,true,true,true,true,false] 0 (n:=51) (listed':=#[true,true,true,true,true,true,true,false]) rfl (by kernel_rfl) (by kernel_rfl) (by kernel_rfl) (by kernel_rfl) (by kernel_rfl) rfl (by kernel_rfl) (fun _ _ d _ _ h=>by cases d <;> exact h) ((Fr.refl _ w).drew) ?_
 apply qg
 refine ⟨fun wf Ff=>?_,?_⟩
 ·have tf:=Gq_u.tab_kept t Ff (by simpa using hg)
  have hf:CmAt wf b T pre post y:=Pb.kept h Ff (by simp;exact hne)
  have k1:=qb (Ff.cell c1 (by simp;exact hne))
  simp only [sel]
  repeat (go_big_quiet_step ((go_at_call_of 179 (Value.int IntKind.i64 1);exact Calls.in_ (clm_any 1 (Gq_u.tab_up tf (In.fr _)) (Pb.up hf (In.fr _)) ho))))
  exact wpQuiet_nil rfl
 refine qy (k:=7) rfl (by kernel_rfl) (fun w5 F5=>?_)
 have D5:=(Fr.refl [] w).drew.trans F5
 have A5:=hA.kept D5 (by simp) (by simp)
 clear c0 c1 c2 c3 c4 c5 c6 c7 c8
 go_wp2_with fail
 refine (Ar.jh _ p q s _ _ A5).mono ?_;rintro e w6 ⟨rfl,A6,F6⟩
 go_wp2
 go_ret
 exact ⟨rfl,A6,(D5.mono (by simp)).trans F6⟩
theorem acc2 (hl:y.ln=2) (t:Word.Tab w) (h:CmAt w b T pre post y) (ho:pre.size=o) (hA:Ar w p q s):Calls Tryz.prog 125 #[.pointer (some ⟨b,o,none⟩),.pointer (some ⟨p,0,none⟩)] w fun e w'=>e = .returned (.int .i64 (y.told s))∧Ar w' p q (y.act s)∧Fr [p,q] w w':=by
 have et:y.told s=qw s.l 1:=by unfold Cm.told;simp [hl]
 have ea:y.act s=s.add 1 1:=by unfold Cm.act;simp [hl]
 rw [et,ea]
 obtain ⟨c0,c1,c2,c3,c4,c5,c6,c7,c8⟩:=cm_cells h ho
 rw [hl] at c3
 clear et ea hl
 clear h t c0 c1 c2 c4 c5 c6 c7 c8
 go_enter Tryz.func125,Tryz.ntmps125
 go_wp2_with fail
 refine (Ar.Kg _ p q s _ _ hA).mono ?_;rintro e w4 ⟨rfl,A4,F4⟩
 go_wp2
 go_ret
 exact ⟨rfl,A4,F4⟩
set_option maxRecDepth 100000 in
theorem acc3 (hl:y.ln=3) (t:Word.Tab w) (h:CmAt w b T pre post y) (ho:pre.size=o) (hA:Ar w p q s) (hne:b≠p∧b≠q) (hg:2≠p∧2≠q):Calls Tryz.prog 125 #[.pointer (some ⟨b,o,none⟩),.pointer (some ⟨p,0,none⟩)] w fun e w'=>e = .returned (.int .i64 (y.told s))∧Ar w' p q (y.act s)∧Fr [p,q] w w':=by
 have et:y.told s=0:=by unfold Cm.told;simp [hl]
 have ea:y.act s=s.swap y.ps (wu y.sq 1) (wu y.sq (wrap64 (y.f2+2))):=by unfold Cm.act;simp [hl]
 rw [et,ea]
 obtain ⟨c0,c1,c2,c3,c4,c5,c6,c7,c8⟩:=cm_cells h ho
 rw [hl] at c3
 clear et ea hl
 go_enter Tryz.func125,Tryz.ntmps125
 go_wp2_with fail
 refine qp (by kernel_rfl) ?_
 refine za [p,q] w #[true,true,true,true,true,true,true,true,true,true,true,true,true,true,true,false] 15 1 rfl ?_
 refine envT_pass [true,true,true,true,true,true,true,true,true,true,true,true,true,true,true,false] 0 (n:=51) (listed':=#[true,true,true,true,true,true,true,true,true,true,true,true,true,true,true,false]) rfl (by kernel_rfl) (by kernel_rfl) (by kernel_rfl) (by kernel_rfl) (by kernel_rfl) rfl (by kernel_rfl) (fun _ _ d _ _ h=>by cases d <;> exact h) ((Fr.refl _ w).drew) ?_
 apply qg
 refine ⟨fun wf Ff=>?_,?_⟩
 ·have tf:=Gq_u.tab_kept t Ff (by simpa using hg)
  have hf:CmAt wf b T pre post y:=Pb.kept h Ff (by simp;exact hne)
  have k1:=qb (Ff.cell c1 (by simp;exact hne))
  have k6:=qb (Ff.cell c6 (by simp;exact hne))
  simp only [sel]
  repeat (go_big_quiet_step ((first | (go_at_call_of 179 (Value.int IntKind.i64 1);exact Calls.in_ (clm_any 1 (Gq_u.tab_up tf (In.fr _)) (Pb.up hf (In.fr _)) ho)) | (go_at_call 179;exact Calls.in_ (clm_any (wrap64 (y.f2+2)) (Gq_u.tab_up tf (In.fr _)) (Pb.up hf (In.fr _)) ho)))))
  exact wpQuiet_nil rfl
 refine qy (k:=15) rfl (by kernel_rfl) (fun w5 F5=>?_)
 have D5:=(Fr.refl [] w).drew.trans F5
 have A5:=hA.kept D5 (by simp) (by simp)
 clear c0 c1 c2 c3 c4 c5 c6 c7 c8
 go_wp2_with fail
 refine (Ar.yt _ p q s _ _ _ A5).mono ?_;rintro e w6 ⟨rfl,A6,F6⟩
 go_wp2
 go_ret
 exact ⟨rfl,A6,(D5.mono (by simp)).trans F6⟩
theorem acc4 (hl:y.ln=4) (t:Word.Tab w) (h:CmAt w b T pre post y) (ho:pre.size=o) (hA:Ar w p q s):Calls Tryz.prog 125 #[.pointer (some ⟨b,o,none⟩),.pointer (some ⟨p,0,none⟩)] w fun e w'=>e = .returned (.int .i64 (y.told s))∧Ar w' p q (y.act s)∧Fr [p,q] w w':=by
 have et:y.told s=qw s.l y.ps:=by unfold Cm.told;simp [hl]
 have ea:y.act s=s.load y.ps:=by unfold Cm.act;simp [hl]
 rw [et,ea]
 obtain ⟨c0,c1,c2,c3,c4,c5,c6,c7,c8⟩:=cm_cells h ho
 rw [hl] at c3
 clear et ea hl
 clear h t c0 c2 c4 c5 c6 c7 c8
 go_enter Tryz.func125,Tryz.ntmps125
 go_wp2_with fail
 refine (Ar.zl _ p q s _ hA).mono ?_;rintro e w4 ⟨rfl,A4,F4⟩
 go_wp2
 go_ret
 exact ⟨rfl,A4,F4⟩
theorem acc_any (hl:0≤y.ln∧y.ln≤4) (t:Word.Tab w) (h:CmAt w b T pre post y) (ho:pre.size=o) (hA:Ar w p q s) (hne:b≠p∧b≠q) (hg:2≠p∧2≠q):Calls Tryz.prog 125 #[.pointer (some ⟨b,o,none⟩),.pointer (some ⟨p,0,none⟩)] w fun e w'=>e = .returned (.int .i64 (y.told s))∧Ar w' p q (y.act s)∧Fr [p,q] w w':=by
 rcases (by omega:y.ln=0∨y.ln=1∨y.ln=2∨y.ln=3∨y.ln=4) with e | e | e | e | e
 ·exact acc0 e t h ho hA
 ·exact acc1 e t h ho hA hne hg
 ·exact acc2 e t h ho hA
 ·exact acc3 e t h ho hA hne hg
 ·exact acc4 e t h ho hA
def PostS (w:World) (b p q:Nat) (T:TypeId) (pre post:Array Value) (y:Cm) (s:St) (e:Ending) (w':World):Prop:=e = .returned (.bool (decide (y.ln=5)))∧CmAt w' b T pre post y∧Ar w' p q s∧Fr [b,p,q] w w'
set_option maxHeartbeats 1600000 in
set_option maxRecDepth 100000 in
theorem step0 (hl:y.ln=0) (t:Word.Tab w) (h:CmAt w b T pre post y) (ho:pre.size=o) (hA:Ar w p q s) (hne:b≠p∧b≠q) (hg:2≠p∧2≠q):Calls Tryz.prog 62 #[.pointer (some ⟨b,o,none⟩),.pointer (some ⟨p,0,none⟩)] w (PostS w b p q T pre post (y.step s) (y.act s)):=by
 obtain ⟨c0,c1,c2,c3,c4,c5,c6,c7,c8⟩:=cm_cells h ho
 have HS:=q9 (show ∀ wz,Fr [] w wz→Calls Tryz.prog 125 #[.pointer (some ⟨b,o,none⟩),.pointer (some ⟨p,0,none⟩)] wz fun e w'=>e = .returned (.int .i64 (y.told s))∧Ar w' p q (y.act s)∧Fr [p,q] wz w' from fun wz Fz=>acc_any (by omega) (Gq_u.tab_up t Fz) (Pb.up h Fz) ho (hA.kept Fz (by simp) (by simp)) hne hg)
 rw [hl] at c3
 have q0:((0:Int) != 5)=true:=by decide
 have HL:=q9 (qc hl ho)
 have HH:=q9 h
 have HNE:=q9 hne
 clear hl ho t hA hg hne h c0 c1 c2
 unfold Cm.step
 have hpt:y.put (y.told s) = { y with f0:=y.told s }:=by unfold Cm.put;simp [HL.out.1]
 rw [hpt]
 have HU:=q9 hpt
 clear hpt
 generalize ht:y.told s=v at *
 clear ht
 go_enter Tryz.func62,Tryz.ntmps62
 go_wp2_with fail
 refine qp (by kernel_rfl) ?_
 refine wm 0 rfl (by kernel_rfl) (by kernel_rfl) (by kernel_rfl) rfl (fun _ _ d _ _ h=>by cases d <;> exact h) ?_
 go_frame
 simp only [Act.eval,Array.getD_eq_getD_getElem?,List.getElem?_toArray,List.getElem?_cons_zero,Option.getD_some]
 refine za [p,q] w #[true,true,true,true,true,true,true,true,true,true,true,false] 10 1 rfl ?_
 refine envT_pass [false,true,true,true,true,true,true,false,true,true,false,false] 2 (n:=31) (listed':=#[true,true,true,true,true,true,true,false,true,true,false,false]) rfl (by kernel_rfl) (by kernel_rfl) (by kernel_rfl) (by kernel_rfl) (by kernel_rfl) rfl (by kernel_rfl) (fun _ _ d _ _ h=>by cases d <;> exact h) ((Fr.refl _ w).drew) ?_
 apply qg
 refine ⟨fun wf Ff=>?_,?_⟩
 ·have k3:=qb (Ff.cell c3 (by simp;exact HNE.out))
  simp only [sel]
  repeat (go_big_quiet_step (fail))
  exact wpQuiet_nil rfl
 refine q9j 7 (by kernel_rfl) rfl rfl (fun w3 F3=>?_)
 have D3:=(Fr.refl [] w).drew.trans F3
 clear F3 c3 c4 c5 c6 c7 c8
 go_wp2_with fail
 refine (HS.out _ D3).mono ?_;rintro e w4 ⟨rfl,A4,F4⟩
 go_wp2_with fail
 refine ql ⟨(D3.mono (by simp)).trans F4,?_⟩
 refine q9j 10 (by kernel_rfl) rfl rfl (fun w4' F4'=>?_)
 replace A4:=A4.kept F4' (by simp) (by simp)
 replace F4:=F4.then F4'
 clear F4'
 go_wp2_with fail
 refine ql ⟨(D3.mono (by simp)).trans F4,?_⟩
 refine qy (k:=11) rfl (by kernel_rfl) (fun w5 F5=>?_)
 have A5:=A4.kept F5 (by simp) (by simp)
 have D4:Fr [p,q] w w5:=((D3.mono (by simp)).trans F4).then F5
 have h5:CmAt w5 b T pre post y:=Pb.kept HH.out D4 (by simp;exact HNE.out)
 have D5:Fr [b,p,q] w w5:=D4.mono (by simp)
 clear A4 F4 F5 D3 D4
 have HP:=q9 (qc h5 (qc A5 D5))
 obtain ⟨c0,c1,c2,c3,c4,c5,c6,c7,c8⟩:=cm_cells h5 HL.out.2
 have z5:=h5.frozen
 clear h5 A5 D5
 rw [HL.out.1] at c3
 go_wp2_with fail
 have h6:CmAt (w5.setCell ⟨b,o+4,none⟩ (.int .i64 v)) b T pre post { y with f0:=v }:=Pb.set HP.out.1 HL.out.2 (i:=4) (by show 4<9;omega) (.int .i64 v)
 have A6:Ar (w5.setCell ⟨b,o+4,none⟩ (.int .i64 v)) p q (y.act s):=HP.out.2.1.kept (Fr.setCell (S:=[b]) (b:=b) _ (by simp)) (by simp;exact HNE.out.1.symm) (by simp;exact HNE.out.2.symm)
 have D6:=HP.out.2.2.setCell' (b:=b) (i:=o+4) (.int .i64 v) (by simp)
 generalize (w5.setCell ⟨b,o+4,none⟩ (.int .i64 v))=w6 at *
 clear c0 c1 c2 c3 c4 c5 c6 c7 c8 z5
 refine (beh_any h6 HL.out.2).mono ?_;rintro e w7 ⟨rfl,F7⟩
 have h7:CmAt w7 b T pre post { y with f0:=v }:=Pb.up h6 F7
 have HR:=q9 (qc h7 (qc (A6.kept F7 (by simp) (by simp)) (D6.then F7)))
 have z7_u:=h7.frozen
 obtain ⟨c0,c1,c2,c3,-⟩:=cm_cells h7 HL.out.2
 clear h7 h6 A6 D6 F7 c0 c1 c2
 generalize hlb:({ y with f0:=v }:Cm).behL=lb at *
 have HB:=q9 hlb
 clear hlb
 go_wp2_with fail
 go_ret
 obtain ⟨h7,A7,D7⟩:=HR.out
 refine ⟨?_,?_,?_,?_⟩
 ·first | rfl | (show Ending.returned (.bool (lb == 5)) = .returned (.bool (decide (lb=5)));congr)
 ·exact Pb.set h7 HL.out.2 (i:=3) (by show 3<9;omega) (.int .i64 lb)
 ·exact A7.kept (Fr.setCell (S:=[b]) (b:=b) _ (by simp)) (by simp;exact HNE.out.1.symm) (by simp;exact HNE.out.2.symm)
 ·exact D7.setCell' (b:=b) _ (by simp)
set_option maxHeartbeats 1600000 in
set_option maxRecDepth 100000 in
theorem step1 (hl:y.ln=1) (t:Word.Tab w) (h:CmAt w b T pre post y) (ho:pre.size=o) (hA:Ar w p q s) (hne:b≠p∧b≠q) (hg:2≠p∧2≠q):Calls Tryz.prog 62 #[.pointer (some ⟨b,o,none⟩),.pointer (some ⟨p,0,none⟩)] w (PostS w b p q T pre post (y.step s) (y.act s)):=by
 obtain ⟨c0,c1,c2,c3,c4,c5,c6,c7,c8⟩:=cm_cells h ho
 have HS:=q9 (show ∀ wz,Fr [] w wz→Calls Tryz.prog 125 #[.pointer (some ⟨b,o,none⟩),.pointer (some ⟨p,0,none⟩)] wz fun e w'=>e = .returned (.int .i64 (y.told s))∧Ar w' p q (y.act s)∧Fr [p,q] wz w' from fun wz Fz=>acc_any (by omega) (Gq_u.tab_up t Fz) (Pb.up h Fz) ho (hA.kept Fz (by simp) (by simp)) hne hg)
 rw [hl] at c3
 have q0:((1:Int) != 5)=true:=by decide
 have HL:=q9 (qc hl ho)
 have HH:=q9 h
 have HNE:=q9 hne
 clear hl ho t hA hg hne h c0 c1 c2
 unfold Cm.step
 have hpt:y.put (y.told s) = { y with f1:=y.told s }:=by unfold Cm.put;simp [HL.out.1]
 rw [hpt]
 have HU:=q9 hpt
 clear hpt
 generalize ht:y.told s=v at *
 clear ht
 go_enter Tryz.func62,Tryz.ntmps62
 go_wp2_with fail
 refine qp (by kernel_rfl) ?_
 refine wm 0 rfl (by kernel_rfl) (by kernel_rfl) (by kernel_rfl) rfl (fun _ _ d _ _ h=>by cases d <;> exact h) ?_
 go_frame
 simp only [Act.eval,Array.getD_eq_getD_getElem?,List.getElem?_toArray,List.getElem?_cons_zero,Option.getD_some]
 refine za [p,q] w #[true,true,true,true,true,true,true,true,true,true,true,false] 10 1 rfl ?_
 refine envT_pass [false,true,true,true,true,true,true,false,true,true,false,false] 2 (n:=31) (listed':=#[true,true,true,true,true,true,true,false,true,true,false,false]) rfl (by kernel_rfl) (by kernel_rfl) (by kernel_rfl) (by kernel_rfl) (by kernel_rfl) rfl (by kernel_rfl) (fun _ _ d _ _ h=>by cases d <;> exact h) ((Fr.refl _ w).drew) ?_
 apply qg
 refine ⟨fun wf Ff=>?_,?_⟩
 ·have k3:=qb (Ff.cell c3 (by simp;exact HNE.out))
  simp only [sel]
  repeat (go_big_quiet_step (fail))
  exact wpQuiet_nil rfl
 refine q9j 7 (by kernel_rfl) rfl rfl (fun w3 F3=>?_)
 have D3:=(Fr.refl [] w).drew.trans F3
 clear F3 c3 c4 c5 c6 c7 c8
 go_wp2_with fail
 refine (HS.out _ D3).mono ?_;rintro e w4 ⟨rfl,A4,F4⟩
 go_wp2_with fail
 refine ql ⟨(D3.mono (by simp)).trans F4,?_⟩
 refine q9j 10 (by kernel_rfl) rfl rfl (fun w4' F4'=>?_)
 replace A4:=A4.kept F4' (by simp) (by simp)
 replace F4:=F4.then F4'
 clear F4'
 go_wp2_with fail
 refine ql ⟨(D3.mono (by simp)).trans F4,?_⟩
 refine qy (k:=11) rfl (by kernel_rfl) (fun w5 F5=>?_)
 have A5:=A4.kept F5 (by simp) (by simp)
 have D4:Fr [p,q] w w5:=((D3.mono (by simp)).trans F4).then F5
 have h5:CmAt w5 b T pre post y:=Pb.kept HH.out D4 (by simp;exact HNE.out)
 have D5:Fr [b,p,q] w w5:=D4.mono (by simp)
 clear A4 F4 F5 D3 D4
 have HP:=q9 (qc h5 (qc A5 D5))
 obtain ⟨c0,c1,c2,c3,c4,c5,c6,c7,c8⟩:=cm_cells h5 HL.out.2
 have z5:=h5.frozen
 clear h5 A5 D5
 rw [HL.out.1] at c3
 go_wp2_with fail
 have h6:CmAt (w5.setCell ⟨b,o+4+1,none⟩ (.int .i64 v)) b T pre post { y with f1:=v }:=Pb.set HP.out.1 HL.out.2 (i:=5) (by show 5<9;omega) (.int .i64 v)
 have A6:Ar (w5.setCell ⟨b,o+4+1,none⟩ (.int .i64 v)) p q (y.act s):=HP.out.2.1.kept (Fr.setCell (S:=[b]) (b:=b) _ (by simp)) (by simp;exact HNE.out.1.symm) (by simp;exact HNE.out.2.symm)
 have D6:=HP.out.2.2.setCell' (b:=b) (i:=o+4+1) (.int .i64 v) (by simp)
 generalize (w5.setCell ⟨b,o+4+1,none⟩ (.int .i64 v))=w6 at *
 clear c0 c1 c2 c3 c4 c5 c6 c7 c8 z5
 refine (beh_any h6 HL.out.2).mono ?_;rintro e w7 ⟨rfl,F7⟩
 have h7:CmAt w7 b T pre post { y with f1:=v }:=Pb.up h6 F7
 have HR:=q9 (qc h7 (qc (A6.kept F7 (by simp) (by simp)) (D6.then F7)))
 have z7_u:=h7.frozen
 obtain ⟨c0,c1,c2,c3,-⟩:=cm_cells h7 HL.out.2
 clear h7 h6 A6 D6 F7 c0 c1 c2
 generalize hlb:({ y with f1:=v }:Cm).behL=lb at *
 have HB:=q9 hlb
 clear hlb
 go_wp2_with fail
 go_ret
 obtain ⟨h7,A7,D7⟩:=HR.out
 refine ⟨?_,?_,?_,?_⟩
 ·first | rfl | (show Ending.returned (.bool (lb == 5)) = .returned (.bool (decide (lb=5)));congr)
 ·exact Pb.set h7 HL.out.2 (i:=3) (by show 3<9;omega) (.int .i64 lb)
 ·exact A7.kept (Fr.setCell (S:=[b]) (b:=b) _ (by simp)) (by simp;exact HNE.out.1.symm) (by simp;exact HNE.out.2.symm)
 ·exact D7.setCell' (b:=b) _ (by simp)
set_option maxHeartbeats 1600000 in
set_option maxRecDepth 100000 in
theorem step2 (hl:y.ln=2) (t:Word.Tab w) (h:CmAt w b T pre post y) (ho:pre.size=o) (hA:Ar w p q s) (hne:b≠p∧b≠q) (hg:2≠p∧2≠q):Calls Tryz.prog 62 #[.pointer (some ⟨b,o,none⟩),.pointer (some ⟨p,0,none⟩)] w (PostS w b p q T pre post (y.step s) (y.act s)):=by
 obtain ⟨c0,c1,c2,c3,c4,c5,c6,c7,c8⟩:=cm_cells h ho
 have HS:=q9 (show ∀ wz,Fr [] w wz→Calls Tryz.prog 125 #[.pointer (some ⟨b,o,none⟩),.pointer (some ⟨p,0,none⟩)] wz fun e w'=>e = .returned (.int .i64 (y.told s))∧Ar w' p q (y.act s)∧Fr [p,q] wz w' from fun wz Fz=>acc_any (by omega) (Gq_u.tab_up t Fz) (Pb.up h Fz) ho (hA.kept Fz (by simp) (by simp)) hne hg)
 rw [hl] at c3
 have q0:((2:Int) != 5)=true:=by decide
 have HL:=q9 (qc hl ho)
 have HH:=q9 h
 have HNE:=q9 hne
 clear hl ho t hA hg hne h c0 c1 c2
 unfold Cm.step
 have hpt:y.put (y.told s) = { y with f2:=y.told s }:=by unfold Cm.put;simp [HL.out.1]
 rw [hpt]
 have HU:=q9 hpt
 clear hpt
 generalize ht:y.told s=v at *
 clear ht
 go_enter Tryz.func62,Tryz.ntmps62
 go_wp2_with fail
 refine qp (by kernel_rfl) ?_
 refine wm 0 rfl (by kernel_rfl) (by kernel_rfl) (by kernel_rfl) rfl (fun _ _ d _ _ h=>by cases d <;> exact h) ?_
 go_frame
 simp only [Act.eval,Array.getD_eq_getD_getElem?,List.getElem?_toArray,List.getElem?_cons_zero,Option.getD_some]
 refine za [p,q] w #[true,true,true,true,true,true,true,true,true,true,true,false] 10 1 rfl ?_
 refine envT_pass [false,true,true,true,true,true,true,false,true,true,false,false] 2 (n:=31) (listed':=#[true,true,true,true,true,true,true,false,true,true,false,false]) rfl (by kernel_rfl) (by kernel_rfl) (by kernel_rfl) (by kernel_rfl) (by kernel_rfl) rfl (by kernel_rfl) (fun _ _ d _ _ h=>by cases d <;> exact h) ((Fr.refl _ w).drew) ?_
 apply qg
 refine ⟨fun wf Ff=>?_,?_⟩
 ·have k3:=qb (Ff.cell c3 (by simp;exact HNE.out))
  simp only [sel]
  repeat (go_big_quiet_step (fail))
  exact wpQuiet_nil rfl
 refine q9j 7 (by kernel_rfl) rfl rfl (fun w3 F3=>?_)
 have D3:=(Fr.refl [] w).drew.trans F3
 clear F3 c3 c4 c5 c6 c7 c8
 go_wp2_with fail
 refine (HS.out _ D3).mono ?_;rintro e w4 ⟨rfl,A4,F4⟩
 go_wp2_with fail
 refine ql ⟨(D3.mono (by simp)).trans F4,?_⟩
 refine q9j 10 (by kernel_rfl) rfl rfl (fun w4' F4'=>?_)
 replace A4:=A4.kept F4' (by simp) (by simp)
 replace F4:=F4.then F4'
 clear F4'
 go_wp2_with fail
 refine ql ⟨(D3.mono (by simp)).trans F4,?_⟩
 refine qy (k:=11) rfl (by kernel_rfl) (fun w5 F5=>?_)
 have A5:=A4.kept F5 (by simp) (by simp)
 have D4:Fr [p,q] w w5:=((D3.mono (by simp)).trans F4).then F5
 have h5:CmAt w5 b T pre post y:=Pb.kept HH.out D4 (by simp;exact HNE.out)
 have D5:Fr [b,p,q] w w5:=D4.mono (by simp)
 clear A4 F4 F5 D3 D4
 have HP:=q9 (qc h5 (qc A5 D5))
 obtain ⟨c0,c1,c2,c3,c4,c5,c6,c7,c8⟩:=cm_cells h5 HL.out.2
 have z5:=h5.frozen
 clear h5 A5 D5
 rw [HL.out.1] at c3
 go_wp2_with fail
 have h6:CmAt (w5.setCell ⟨b,o+4+2,none⟩ (.int .i64 v)) b T pre post { y with f2:=v }:=Pb.set HP.out.1 HL.out.2 (i:=6) (by show 6<9;omega) (.int .i64 v)
 have A6:Ar (w5.setCell ⟨b,o+4+2,none⟩ (.int .i64 v)) p q (y.act s):=HP.out.2.1.kept (Fr.setCell (S:=[b]) (b:=b) _ (by simp)) (by simp;exact HNE.out.1.symm) (by simp;exact HNE.out.2.symm)
 have D6:=HP.out.2.2.setCell' (b:=b) (i:=o+4+2) (.int .i64 v) (by simp)
 generalize (w5.setCell ⟨b,o+4+2,none⟩ (.int .i64 v))=w6 at *
 clear c0 c1 c2 c3 c4 c5 c6 c7 c8 z5
 refine (beh_any h6 HL.out.2).mono ?_;rintro e w7 ⟨rfl,F7⟩
 have h7:CmAt w7 b T pre post { y with f2:=v }:=Pb.up h6 F7
 have HR:=q9 (qc h7 (qc (A6.kept F7 (by simp) (by simp)) (D6.then F7)))
 have z7_u:=h7.frozen
 obtain ⟨c0,c1,c2,c3,-⟩:=cm_cells h7 HL.out.2
 clear h7 h6 A6 D6 F7 c0 c1 c2
 generalize hlb:({ y with f2:=v }:Cm).behL=lb at *
 have HB:=q9 hlb
 clear hlb
 go_wp2_with fail
 go_ret
 obtain ⟨h7,A7,D7⟩:=HR.out
 refine ⟨?_,?_,?_,?_⟩
 ·first | rfl | (show Ending.returned (.bool (lb == 5)) = .returned (.bool (decide (lb=5)));congr)
 ·exact Pb.set h7 HL.out.2 (i:=3) (by show 3<9;omega) (.int .i64 lb)
 ·exact A7.kept (Fr.setCell (S:=[b]) (b:=b) _ (by simp)) (by simp;exact HNE.out.1.symm) (by simp;exact HNE.out.2.symm)
 ·exact D7.setCell' (b:=b) _ (by simp)
set_option maxHeartbeats 1600000 in
set_option maxRecDepth 100000 in
theorem step3 (hl:y.ln=3) (t:Word.Tab w) (h:CmAt w b T pre post y) (ho:pre.size=o) (hA:Ar w p q s) (hne:b≠p∧b≠q) (hg:2≠p∧2≠q):Calls Tryz.prog 62 #[.pointer (some ⟨b,o,none⟩),.pointer (some ⟨p,0,none⟩)] w (PostS w b p q T pre post (y.step s) (y.act s)):=by
 obtain ⟨c0,c1,c2,c3,c4,c5,c6,c7,c8⟩:=cm_cells h ho
 have HS:=q9 (show ∀ wz,Fr [] w wz→Calls Tryz.prog 125 #[.pointer (some ⟨b,o,none⟩),.pointer (some ⟨p,0,none⟩)] wz fun e w'=>e = .returned (.int .i64 (y.told s))∧Ar w' p q (y.act s)∧Fr [p,q] wz w' from fun wz Fz=>acc_any (by omega) (Gq_u.tab_up t Fz) (Pb.up h Fz) ho (hA.kept Fz (by simp) (by simp)) hne hg)
 rw [hl] at c3
 have q0:((3:Int) != 5)=true:=by decide
 have HL:=q9 (qc hl ho)
 have HH:=q9 h
 have HNE:=q9 hne
 clear hl ho t hA hg hne h c0 c1 c2
 unfold Cm.step
 have hpt:y.put (y.told s) = { y with f3:=y.told s }:=by unfold Cm.put;simp [HL.out.1]
 rw [hpt]
 have HU:=q9 hpt
 clear hpt
 generalize ht:y.told s=v at *
 clear ht
 go_enter Tryz.func62,Tryz.ntmps62
 go_wp2_with fail
 refine qp (by kernel_rfl) ?_
 refine wm 0 rfl (by kernel_rfl) (by kernel_rfl) (by kernel_rfl) rfl (fun _ _ d _ _ h=>by cases d <;> exact h) ?_
 go_frame
 simp only [Act.eval,Array.getD_eq_getD_getElem?,List.getElem?_toArray,List.getElem?_cons_zero,Option.getD_some]
 refine za [p,q] w #[true,true,true,true,true,true,true,true,true,true,true,false] 10 1 rfl ?_
 refine envT_pass [false,true,true,true,true,true,true,false,true,true,false,false] 2 (n:=31) (listed':=#[true,true,true,true,true,true,true,false,true,true,false,false]) rfl (by kernel_rfl) (by kernel_rfl) (by kernel_rfl) (by kernel_rfl) (by kernel_rfl) rfl (by kernel_rfl) (fun _ _ d _ _ h=>by cases d <;> exact h) ((Fr.refl _ w).drew) ?_
 apply qg
 refine ⟨fun wf Ff=>?_,?_⟩
 ·have k3:=qb (Ff.cell c3 (by simp;exact HNE.out))
  simp only [sel]
  repeat (go_big_quiet_step (fail))
  exact wpQuiet_nil rfl
 refine q9j 7 (by kernel_rfl) rfl rfl (fun w3 F3=>?_)
 have D3:=(Fr.refl [] w).drew.trans F3
 clear F3 c3 c4 c5 c6 c7 c8
 go_wp2_with fail
 refine (HS.out _ D3).mono ?_;rintro e w4 ⟨rfl,A4,F4⟩
 go_wp2_with fail
 refine ql ⟨(D3.mono (by simp)).trans F4,?_⟩
 refine q9j 10 (by kernel_rfl) rfl rfl (fun w4' F4'=>?_)
 replace A4:=A4.kept F4' (by simp) (by simp)
 replace F4:=F4.then F4'
 clear F4'
 go_wp2_with fail
 refine ql ⟨(D3.mono (by simp)).trans F4,?_⟩
 refine qy (k:=11) rfl (by kernel_rfl) (fun w5 F5=>?_)
 have A5:=A4.kept F5 (by simp) (by simp)
 have D4:Fr [p,q] w w5:=((D3.mono (by simp)).trans F4).then F5
 have h5:CmAt w5 b T pre post y:=Pb.kept HH.out D4 (by simp;exact HNE.out)
 have D5:Fr [b,p,q] w w5:=D4.mono (by simp)
 clear A4 F4 F5 D3 D4
 have HP:=q9 (qc h5 (qc A5 D5))
 obtain ⟨c0,c1,c2,c3,c4,c5,c6,c7,c8⟩:=cm_cells h5 HL.out.2
 have z5:=h5.frozen
 clear h5 A5 D5
 rw [HL.out.1] at c3
 go_wp2_with fail
 have h6:CmAt (w5.setCell ⟨b,o+4+3,none⟩ (.int .i64 v)) b T pre post { y with f3:=v }:=Pb.set HP.out.1 HL.out.2 (i:=7) (by show 7<9;omega) (.int .i64 v)
 have A6:Ar (w5.setCell ⟨b,o+4+3,none⟩ (.int .i64 v)) p q (y.act s):=HP.out.2.1.kept (Fr.setCell (S:=[b]) (b:=b) _ (by simp)) (by simp;exact HNE.out.1.symm) (by simp;exact HNE.out.2.symm)
 have D6:=HP.out.2.2.setCell' (b:=b) (i:=o+4+3) (.int .i64 v) (by simp)
 generalize (w5.setCell ⟨b,o+4+3,none⟩ (.int .i64 v))=w6 at *
 clear c0 c1 c2 c3 c4 c5 c6 c7 c8 z5
 refine (beh_any h6 HL.out.2).mono ?_;rintro e w7 ⟨rfl,F7⟩
 have h7:CmAt w7 b T pre post { y with f3:=v }:=Pb.up h6 F7
 have HR:=q9 (qc h7 (qc (A6.kept F7 (by simp) (by simp)) (D6.then F7)))
 have z7_u:=h7.frozen
 obtain ⟨c0,c1,c2,c3,-⟩:=cm_cells h7 HL.out.2
 clear h7 h6 A6 D6 F7 c0 c1 c2
 generalize hlb:({ y with f3:=v }:Cm).behL=lb at *
 have HB:=q9 hlb
 clear hlb
 go_wp2_with fail
 go_ret
 obtain ⟨h7,A7,D7⟩:=HR.out
 refine ⟨?_,?_,?_,?_⟩
 ·first | rfl | (show Ending.returned (.bool (lb == 5)) = .returned (.bool (decide (lb=5)));congr)
 ·exact Pb.set h7 HL.out.2 (i:=3) (by show 3<9;omega) (.int .i64 lb)
 ·exact A7.kept (Fr.setCell (S:=[b]) (b:=b) _ (by simp)) (by simp;exact HNE.out.1.symm) (by simp;exact HNE.out.2.symm)
 ·exact D7.setCell' (b:=b) _ (by simp)
set_option maxHeartbeats 1600000 in
set_option maxRecDepth 100000 in
theorem step4 (hl:y.ln=4) (t:Word.Tab w) (h:CmAt w b T pre post y) (ho:pre.size=o) (hA:Ar w p q s) (hne:b≠p∧b≠q) (hg:2≠p∧2≠q):Calls Tryz.prog 62 #[.pointer (some ⟨b,o,none⟩),.pointer (some ⟨p,0,none⟩)] w (PostS w b p q T pre post (y.step s) (y.act s)):=by
 obtain ⟨c0,c1,c2,c3,c4,c5,c6,c7,c8⟩:=cm_cells h ho
 have HS:=q9 (show ∀ wz,Fr [] w wz→Calls Tryz.prog 125 #[.pointer (some ⟨b,o,none⟩),.pointer (some ⟨p,0,none⟩)] wz fun e w'=>e = .returned (.int .i64 (y.told s))∧Ar w' p q (y.act s)∧Fr [p,q] wz w' from fun wz Fz=>acc_any (by omega) (Gq_u.tab_up t Fz) (Pb.up h Fz) ho (hA.kept Fz (by simp) (by simp)) hne hg)
 rw [hl] at c3
 have q0:((4:Int) != 5)=true:=by decide
 have HL:=q9 (qc hl ho)
 have HH:=q9 h
 have HNE:=q9 hne
 clear hl ho t hA hg hne h c0 c1 c2
 unfold Cm.step
 have hpt:y.put (y.told s) = { y with f4:=y.told s }:=by unfold Cm.put;simp [HL.out.1]
 rw [hpt]
 have HU:=q9 hpt
 clear hpt
 generalize ht:y.told s=v at *
 clear ht
 go_enter Tryz.func62,Tryz.ntmps62
 go_wp2_with fail
 refine qp (by kernel_rfl) ?_
 refine wm 0 rfl (by kernel_rfl) (by kernel_rfl) (by kernel_rfl) rfl (fun _ _ d _ _ h=>by cases d <;> exact h) ?_
 go_frame
 simp only [Act.eval,Array.getD_eq_getD_getElem?,List.getElem?_toArray,List.getElem?_cons_zero,Option.getD_some]
 refine za [p,q] w #[true,true,true,true,true,true,true,true,true,true,true,false] 10 1 rfl ?_
 refine envT_pass [false,true,true,true,true,true,true,false,true,true,false,false] 2 (n:=31) (listed':=#[true,true,true,true,true,true,true,false,true,true,false,false]) rfl (by kernel_rfl) (by kernel_rfl) (by kernel_rfl) (by kernel_rfl) (by kernel_rfl) rfl (by kernel_rfl) (fun _ _ d _ _ h=>by cases d <;> exact h) ((Fr.refl _ w).drew) ?_
 apply qg
 refine ⟨fun wf Ff=>?_,?_⟩
 ·have k3:=qb (Ff.cell c3 (by simp;exact HNE.out))
  simp only [sel]
  repeat (go_big_quiet_step (fail))
  exact wpQuiet_nil rfl
 refine q9j 7 (by kernel_rfl) rfl rfl (fun w3 F3=>?_)
 have D3:=(Fr.refl [] w).drew.trans F3
 clear F3 c3 c4 c5 c6 c7 c8
 go_wp2_with fail
 refine (HS.out _ D3).mono ?_;rintro e w4 ⟨rfl,A4,F4⟩
 go_wp2_with fail
 refine ql ⟨(D3.mono (by simp)).trans F4,?_⟩
 refine q9j 10 (by kernel_rfl) rfl rfl (fun w4' F4'=>?_)
 replace A4:=A4.kept F4' (by simp) (by simp)
 replace F4:=F4.then F4'
 clear F4'
 go_wp2_with fail
 refine ql ⟨(D3.mono (by simp)).trans F4,?_⟩
 refine qy (k:=11) rfl (by kernel_rfl) (fun w5 F5=>?_)
 have A5:=A4.kept F5 (by simp) (by simp)
 have D4:Fr [p,q] w w5:=((D3.mono (by simp)).trans F4).then F5
 have h5:CmAt w5 b T pre post y:=Pb.kept HH.out D4 (by simp;exact HNE.out)
 have D5:Fr [b,p,q] w w5:=D4.mono (by simp)
 clear A4 F4 F5 D3 D4
 have HP:=q9 (qc h5 (qc A5 D5))
 obtain ⟨c0,c1,c2,c3,c4,c5,c6,c7,c8⟩:=cm_cells h5 HL.out.2
 have z5:=h5.frozen
 clear h5 A5 D5
 rw [HL.out.1] at c3
 go_wp2_with fail
 have h6:CmAt (w5.setCell ⟨b,o+4+4,none⟩ (.int .i64 v)) b T pre post { y with f4:=v }:=Pb.set HP.out.1 HL.out.2 (i:=8) (by show 8<9;omega) (.int .i64 v)
 have A6:Ar (w5.setCell ⟨b,o+4+4,none⟩ (.int .i64 v)) p q (y.act s):=HP.out.2.1.kept (Fr.setCell (S:=[b]) (b:=b) _ (by simp)) (by simp;exact HNE.out.1.symm) (by simp;exact HNE.out.2.symm)
 have D6:=HP.out.2.2.setCell' (b:=b) (i:=o+4+4) (.int .i64 v) (by simp)
 generalize (w5.setCell ⟨b,o+4+4,none⟩ (.int .i64 v))=w6 at *
 clear c0 c1 c2 c3 c4 c5 c6 c7 c8 z5
 refine (beh_any h6 HL.out.2).mono ?_;rintro e w7 ⟨rfl,F7⟩
 have h7:CmAt w7 b T pre post { y with f4:=v }:=Pb.up h6 F7
 have HR:=q9 (qc h7 (qc (A6.kept F7 (by simp) (by simp)) (D6.then F7)))
 have z7_u:=h7.frozen
 obtain ⟨c0,c1,c2,c3,-⟩:=cm_cells h7 HL.out.2
 clear h7 h6 A6 D6 F7 c0 c1 c2
 generalize hlb:({ y with f4:=v }:Cm).behL=lb at *
 have HB:=q9 hlb
 clear hlb
 go_wp2_with fail
 go_ret
 obtain ⟨h7,A7,D7⟩:=HR.out
 refine ⟨?_,?_,?_,?_⟩
 ·first | rfl | (show Ending.returned (.bool (lb == 5)) = .returned (.bool (decide (lb=5)));congr)
 ·exact Pb.set h7 HL.out.2 (i:=3) (by show 3<9;omega) (.int .i64 lb)
 ·exact A7.kept (Fr.setCell (S:=[b]) (b:=b) _ (by simp)) (by simp;exact HNE.out.1.symm) (by simp;exact HNE.out.2.symm)
 ·exact D7.setCell' (b:=b) _ (by simp)
theorem step_any (hl:0≤y.ln∧y.ln≤5) (t:Word.Tab w) (h:CmAt w b T pre post y) (ho:pre.size=o) (hA:Ar w p q s) (hne:b≠p∧b≠q) (hg:2≠p∧2≠q):Calls Tryz.prog 62 #[.pointer (some ⟨b,o,none⟩),.pointer (some ⟨p,0,none⟩)] w (PostS w b p q T pre post (if y.ln=5 then y else y.step s) (if y.ln=5 then s else y.act s)):=by
 by_cases e5:y.ln=5
 ·rw [qf e5,qf e5]
  obtain ⟨c0,c1,c2,c3,-⟩:=cm_cells h ho
  have HS:=q9 (qc h (qc hA e5))
  rw [e5] at c3
  clear h hA hl e5 t c0 c1 c2 hne hg ho
  go_enter Tryz.func62,Tryz.ntmps62
  go_wp2
  go_ret
  exact ⟨by rw [decide_eq_true HS.out.2.2];rfl,HS.out.1,HS.out.2.1,Fr.refl _ _⟩
 ·rw [qd e5,qd e5]
  rcases (by omega:y.ln=0∨y.ln=1∨y.ln=2∨y.ln=3∨y.ln=4) with e | e | e | e | e
  ·exact step0 e t h ho hA hne hg
  ·exact step1 e t h ho hA hne hg
  ·exact step2 e t h ho hA hne hg
  ·exact step3 e t h ho hA hne hg
  ·exact step4 e t h ho hA hne hg
end
end Go.Proofs.YthokjbikomjhgaaGreatDoor.Kc_u
