/- Parts. -/
import Derived.Test.YtnaahjlpldnjjaaGreatDoorVaa
import Derived.Test.YtnaahjlpldnjjaaGreatDoorVah
import Derived.RegionTactic
import Derived.Deep.RegionHeld3
import Derived.Deep.QuietTactic
import Derived.Test.YtnaahjlpldnjjaaGreatDoorVac
import Derived.Test.YtnaahjlpldnjjaaGreatDoorVad
set_option linter.unusedVariables false
set_option linter.unusedSimpArgs false
set_option maxRecDepth 100000
namespace Go.Proofs.YtnaahjlpldnjjaaGreatDoor
theorem A0h {p:Prop} (h:p:=by first | cases e | (simp only at e;rw [hp] at e;cases e) | (rw [hp] at e;cases e)):p:=h
theorem A0l {p:Prop} (h:p:=by simp;exact ⟨HN.out.2.1.2.2.1,HN.out.2.1.1,HN.out.2.1.2.1⟩):p:=h
theorem A0n {p:Prop} (h:p:=by first | (simp only at e;rw [em] at e;cases e) | cases e):p:=h
theorem A0p {p:Prop} (h:p:=by simp [results,Tryz.results43,go_sem]):p:=h
theorem A0i {p:Prop} (h:p:=by simp;exact HNE.out.1.symm):p:=h
theorem A0j {p:Prop} (h:p:=by simp;exact HNE.out.2.symm):p:=h
theorem A0m {p:Prop} (h:p:=by simp;exact HNE.out):p:=h
theorem A0r {p:Prop} (h:p:=by unfold xn;omega):p:=h
theorem A0o {p:Prop} (h:p:=by simp;exact hne):p:=h
theorem A0f {p:Prop} (h:p:=by kernel_rfl):p:=h
theorem A0k {p:Prop} (h:p:=by cases e):p:=h
theorem A0q {p:Prop} (h:p:=by decide):p:=h
theorem A0e {p:Prop} (h:p:=by omega):p:=h
theorem A0g {p:Prop} (h:p:=by simp):p:=h
theorem Po {p:Prop} (h:p:=by
  have HB:=q9 hlb;clear hlb;go_wp2_with fail;go_ret;obtain ⟨h7,A7,D7⟩:=HR.out;refine ⟨?_,?_,?_,?_⟩
  ·first | rfl | (show Ending.returned (.bool (lb == 5)) = .returned (.bool (decide (lb=5)));congr)
  ·exact Pb.set h7 HL.out.2 (i:=3) (by show 3<9;omega) (.int .i64 lb)
  ·exact A7.kept (Fr.setCell (S:=[b]) (b:=b) _ A0g) A0i A0j
  ·exact D7.setCell' (b:=b) _ A0g
 ):p:=h
theorem Pp {p:Prop} (h:p:=by
  go_wp2_with fail;refine (Pl.wm th A0e A0e _).mono ?_;rintro e _ ⟨rfl,rfl⟩;go_wp2_with fail;refine (HP2.out _ (Fr.refl _ _)).mono ?_;rintro e _ ⟨rfl,rfl⟩;go_wp2_with fail;refine (Xa 500 (V+2) _).mono ?_;rintro e _ ⟨rfl,rfl⟩;generalize Q0 500 (V+2)=cw at *;have g5:(cw == cw)=true:=by simp
  exact A0c
 ):p:=h
theorem Pq {p:Prop} (h:p:=by
  have k3:=qb (Ff.cell c3 A0m);simp only [sel];repeat (go_big_quiet_step (fail))
  exact wpQuiet_nil rfl
 ):p:=h
theorem Ps {p:Prop} (h:p:=by
  simp only [Cm.go,Cm.step,Cm.act,Cm.told,Cm.put,Cm.behL];simp [h,Int.not_le.mpr h];decide +kernel
 ):p:=h
theorem Pu {p:Prop} (h:p:=by
  go_enter Tryz.func77,Tryz.ntmps77;go_wp2_with fail;refine (Ar.zl _ p q s _ hA).mono ?_;rintro e w4 ⟨rfl,A4,F4⟩;go_wp2;go_ret;exact ⟨rfl,A4,F4⟩
 ):p:=h
theorem Pv {p:Prop} (h:p:=by
  go_wp2_with fail;go_roundw;case rel=>exact HX1.out
  case measure=>simp [intOf];omega
 ):p:=h
theorem Pw {p:Prop} (h:p:=by
  simp only;repeat' split
  all_goals first | exact ln_load h _ | exact ln_store h _ _ | exact ln_add h _ _ | exact ln_swap h _ _ _
 ):p:=h
theorem Px {p:Prop} (h:p:=by
  rw [(Pl.Y3 (wd:=c.wd) hc.t1 hc.t8 (by have:=hc.c2;have:=hc.t1;omega) hc.top).1];have:=hc.top;have:=hc.t1;have:=hc.c2;omega
 ):p:=h
theorem Py {p:Prop} (h:p:=by
  refine vst_swap h (fun _=>?_);rw [hw];exact vst_fld hc hO h hx.K A0e sz7 (fun _ _ _=>state_le g0 g1)
 ):p:=h
theorem Pz {p:Prop} (h:p:=by
  simp only;repeat' split
  all_goals first | exact ln_load h _ | exact ln_store h _ _ | exact ln_swap h _ _ _
 ):p:=h
theorem A00 {p:Prop} (h:p:=by
  unfold Mc.notes;simp only;split
  ·split
   ·simp only;split <;> rfl
   ·split <;> rfl
  ·split <;> rfl
 ):p:=h
theorem A01 {p:Prop} (h:p:=by
  exact ⟨hv.d,kx,fun z e=>(by first | exact km z e | (simp only at e;rw [em] at e;cases e) | cases e)⟩
 ):p:=h
theorem A02 {p:Prop} (h:p:=by
  go_wp2_with fail;refine HN.out.mono ?_;rintro e w2 ⟨rfl,F2⟩;go_wp2;go_ret;exact ⟨rfl,F2⟩
 ):p:=h
theorem A03 {p:Prop} (h:p:=by
  have:=hc.t1;rw [Qw hc A0e hp];exact A0d
 ):p:=h
theorem A04 {p:Prop} (h:p:=by
  simp only;repeat' split
  all_goals first | exact ln_load h _ | exact ln_swap h _ _ _
 ):p:=h
theorem A05 {p:Prop} (h:p:=by
  exact wd_fld hc ha A0e A0e A0e (fun _ _ _=>by omega)
 ):p:=h
theorem A06 {p:Prop} (h:p:=by
  exact vst_fld hc hO h hx.K A0e A0e (fun _ _ _=>by omega)
 ):p:=h
theorem A07 {p:Prop} (h:p:=by
  go_wp2;go_ret;exact ⟨rfl,F2⟩
 ):p:=h
theorem A08 {p:Prop} (h:p:=by
  exact ⟨newp _ _ _ _,fun y e=>A0k,fun y e=>A0k⟩
 ):p:=h
theorem A09 {p:Prop} (h:p:=by
  rw [e];exact ⟨vst_same h,hv⟩
 ):p:=h
theorem A0a {p:Prop} (h:p:=by
  go_wp2;go_ret;exact ⟨rfl,A6,(D5.mono A0g).trans F6⟩
 ):p:=h
theorem A0b {p:Prop} (h:p:=by
  rw [ex];exact ⟨vst_same h,bd_on_V hv.l hv.g hv.w⟩
 ):p:=h
theorem A0c {p:Prop} (h:p:=by
  go_wp2_with fail;go_ret;exact ⟨rfl,HG6.out.own HF8.out (by simp;exact HN.out.2.2.2)⟩
 ):p:=h
theorem A0d {p:Prop} (h:p:=by
  unfold Pl.Qj;(repeat' split) <;> first | rfl | omega
 ):p:=h
end Go.Proofs.YtnaahjlpldnjjaaGreatDoor
namespace Go.Proofs.YtnaahjlpldnjjaaGreatDoor.Ar
end Go.Proofs.YtnaahjlpldnjjaaGreatDoor.Ar
namespace Go.Proofs.YtnaahjlpldnjjaaGreatDoor
end Go.Proofs.YtnaahjlpldnjjaaGreatDoor
namespace Go.Proofs.YtnaahjlpldnjjaaGreatDoor.Mx
end Go.Proofs.YtnaahjlpldnjjaaGreatDoor.Mx
namespace Go.Proofs.YtnaahjlpldnjjaaGreatDoor
end Go.Proofs.YtnaahjlpldnjjaaGreatDoor
namespace Go.Proofs.YtnaahjlpldnjjaaGreatDoor.Og
end Go.Proofs.YtnaahjlpldnjjaaGreatDoor.Og
namespace Go.Proofs.YtnaahjlpldnjjaaGreatDoor
end Go.Proofs.YtnaahjlpldnjjaaGreatDoor
namespace Go.Proofs.YtnaahjlpldnjjaaGreatDoor.Ref
end Go.Proofs.YtnaahjlpldnjjaaGreatDoor.Ref
namespace Go.Proofs.YtnaahjlpldnjjaaGreatDoor
end Go.Proofs.YtnaahjlpldnjjaaGreatDoor
namespace Go.Proofs.YtnaahjlpldnjjaaGreatDoor.Op10
end Go.Proofs.YtnaahjlpldnjjaaGreatDoor.Op10
namespace Go.Proofs.YtnaahjlpldnjjaaGreatDoor
end Go.Proofs.YtnaahjlpldnjjaaGreatDoor
namespace Go.Proofs.YtnaahjlpldnjjaaGreatDoor.Mp
end Go.Proofs.YtnaahjlpldnjjaaGreatDoor.Mp
namespace Go.Proofs.YtnaahjlpldnjjaaGreatDoor
end Go.Proofs.YtnaahjlpldnjjaaGreatDoor
namespace Go.Proofs.YtnaahjlpldnjjaaGreatDoor.Gq_u
open Go.RowKit Go.Proofs.YtnaahjlpldnjjaaGreatDoor.Ar Go.Proofs.YtnaahjlpldnjjaaGreatDoor.Mx
set_option linter.unusedVariables false
set_option linter.unusedSimpArgs false
theorem tab_kept {S:List Nat} {w w':World} (t:Word.Tab w) (f:Fr S w w') (h:2∉S):Word.Tab w':=by obtain ⟨t0,t1,t2,t3,t4,t5,t6,t7,t8,t9,t10,t11⟩:=t;exact ⟨f.cell t0 h,f.cell t1 h,f.cell t2 h,f.cell t3 h,f.cell t4 h,f.cell t5 h,f.cell t6 h,f.cell t7 h,f.cell t8 h,f.cell t9 h,f.cell t10 h,f.cell t11 h⟩
theorem tab_up {w w':World} (t:Word.Tab w) (f:Fr [] w w'):Word.Tab w':=tab_kept t f A0g
theorem fr_dr {w w':World} (h:Word.Dr w w'):Fr [] w w':=by obtain ⟨m,rfl⟩:=h;exact (Fr.refl [] w).drewN m
end Go.Proofs.YtnaahjlpldnjjaaGreatDoor.Gq_u
namespace Go.Proofs.YtnaahjlpldnjjaaGreatDoor.Kc_u
open Go.RowKit Go.Proofs.YtnaahjlpldnjjaaGreatDoor.Ar Go.Proofs.YtnaahjlpldnjjaaGreatDoor.Mx
set_option linter.unusedVariables false
set_option linter.unusedSimpArgs false
theorem heldI_hd (n:Int) {a b:Int} (h:a≤b):Word.Q7 a b n=hd n a b:=by unfold Word.Q7 hd;split <;> split <;> omega
theorem claimI_eq (s p:Int):Word.qdc s p=Q0 s p:=by unfold Word.qdc Q0;rw [heldI_hd _ A0q,heldI_hd _ A0q]
theorem claim9 (s p:Int) (w:World) (t:Word.Tab w):Calls Tryz.prog 105 #[.int .i64 s,.int .i64 p] w fun e w'=>e = .returned (.int .i64 (Q0 s p))∧Fr [] w w' :=
 (Word.Xa s p w t).mono fun e w' ⟨h,d⟩=>⟨by rw [h,claimI_eq],Gq_u.fr_dr d⟩
structure Cm where
 vs:Int
 ps:Int
 sq:Int
 ln:Int
 f0:Int
 f1:Int
 f2:Int
 f3:Int
 f4:Int
def Cm.cells (y:Cm):Array Value:=#[.int .i64 y.vs,.int .i64 y.ps,.int .i64 y.sq,.int .i64 y.ln,.int .i64 y.f0,.int .i64 y.f1,.int .i64 y.f2,.int .i64 y.f3,.int .i64 y.f4]
def CmAt (w:World) (b:Nat) (T:TypeId) (pre post:Array Value) (y:Cm):Prop:=Pb w b T pre post y.cells
def Cm.act (y:Cm) (s:St):St:=if y.ln=0 then s.load 1 else if y.ln=1 then s.store y.ps (Q0 y.sq 1) else if y.ln=2 then s.add 1 1 else if y.ln=3 then s.swap y.ps (Q0 y.sq 1) (Q0 y.sq (wrap64 (y.f2+2))) else s.load y.ps
def Cm.told (y:Cm) (s:St):Int:=if y.ln=0 then qw s.l 1 else if y.ln=1 then 0 else if y.ln=2 then qw s.l 1 else if y.ln=3 then 0 else qw s.l y.ps
def Cm.put (y:Cm) (v:Int):Cm:=if y.ln=0 then { y with f0:=v } else if y.ln=1 then { y with f1:=v } else if y.ln=2 then { y with f2:=v } else if y.ln=3 then { y with f3:=v } else { y with f4:=v }
def Cm.behL (y:Cm):Int:=if y.vs≤y.f0 then 5 else wrap64 (y.ln+1)
def Cm.step (y:Cm) (s:St):Cm:={ y.put (y.told s) with ln:=(y.put (y.told s)).behL }
section
variable {w:World} {b o p q:Nat} {T:TypeId} {pre post:Array Value} {y:Cm} {s:St}
theorem cm_cells (h:CmAt w b T pre post y) (ho:pre.size=o):w.cell? ⟨b,o,none⟩=some (.int .i64 y.vs)∧w.cell? ⟨b,o+1,none⟩=some (.int .i64 y.ps)∧w.cell? ⟨b,o+2,none⟩=some (.int .i64 y.sq)∧w.cell? ⟨b,o+3,none⟩=some (.int .i64 y.ln)∧w.cell? ⟨b,o+4,none⟩=some (.int .i64 y.f0)∧w.cell? ⟨b,o+4+1,none⟩=some (.int .i64 y.f1)∧w.cell? ⟨b,o+4+2,none⟩=some (.int .i64 y.f2)∧w.cell? ⟨b,o+4+3,none⟩=some (.int .i64 y.f3)∧w.cell? ⟨b,o+4+4,none⟩=some (.int .i64 y.f4) :=
 ⟨h.cell (i:=0) ho rfl,h.cell (i:=1) ho rfl,h.cell (i:=2) ho rfl,h.cell (i:=3) ho rfl,h.cell (i:=4) ho rfl,h.cell (i:=5) ho rfl,h.cell (i:=6) ho rfl,h.cell (i:=7) ho rfl,h.cell (i:=8) ho rfl⟩
theorem none_any (h:CmAt w b T pre post y) (ho:pre.size=o):Calls Tryz.prog 79 #[.pointer (some ⟨b,o,none⟩)] w fun e w'=>e = .returned (.bool (decide (y.vs≤y.f0)))∧Fr [] w w':=by
 obtain ⟨c0,-,-,-,c4,-⟩:=cm_cells h ho;have k0:=qb c0;have k4:=qb c4;clear c0 c4 h;go_enter Tryz.func79,Tryz.ntmps79;go_wp2_with fail;refine Su A0f A0f ?_;repeat (go_big_quiet_step (fail))
 refine wpQuiet_nil ?_;intro w2 F2;exact A07
theorem beh_any (h:CmAt w b T pre post y) (ho:pre.size=o):Calls Tryz.prog 78 #[.pointer (some ⟨b,o,none⟩)] w fun e w'=>e = .returned (.int .i64 y.behL)∧Fr [] w w':=by
 have HN:=q9 (none_any h ho);have HH:=q9 (qc h ho);unfold Cm.behL;by_cases e:y.vs≤y.f0
 ·rw [qf e];have g:decide (y.vs≤y.f0)=true:=by simpa using e
  rw [g] at HN;clear h e g ho;go_enter Tryz.func78,Tryz.ntmps78;exact A02
 ·rw [qd e];have g:decide (y.vs≤y.f0)=false:=by simpa using e
  rw [g] at HN;clear h e g ho;go_enter Tryz.func78,Tryz.ntmps78;go_wp2_with fail;refine HN.out.mono ?_;rintro e w2 ⟨rfl,F2⟩;obtain ⟨c0,c1,c2,c3,-⟩:=cm_cells (Pb.up HH.out.1 F2) HH.out.2;exact A07
theorem clm_any (v:Int) (t:Word.Tab w) (h:CmAt w b T pre post y) (ho:pre.size=o):Calls Tryz.prog 120 #[.pointer (some ⟨b,o,none⟩),.int .i64 v] w fun e w'=>e = .returned (.int .i64 (Q0 y.sq v))∧Fr [] w w':=by obtain ⟨c0,c1,c2,-⟩:=cm_cells h ho;have HN:=q9 (claim9 y.sq v w t);clear h c0 c1 t;go_enter Tryz.func120,Tryz.ntmps120;exact A02
theorem acc0 (hl:y.ln=0) (t:Word.Tab w) (h:CmAt w b T pre post y) (ho:pre.size=o) (hA:Ar w p q s):Calls Tryz.prog 77 #[.pointer (some ⟨b,o,none⟩),.pointer (some ⟨p,0,none⟩)] w fun e w'=>e = .returned (.int .i64 (y.told s))∧Ar w' p q (y.act s)∧Fr [p,q] w w':=by
 have et:y.told s=qw s.l 1:=by unfold Cm.told;simp [hl]
 have ea:y.act s=s.load 1:=by unfold Cm.act;simp [hl]
 rw [et,ea];obtain ⟨c0,c1,c2,c3,c4,c5,c6,c7,c8⟩:=cm_cells h ho;rw [hl] at c3;clear et ea hl;clear h t c0 c1 c2 c4 c5 c6 c7 c8;exact Pu
set_option maxRecDepth 100000 in
theorem acc1 (hl:y.ln=1) (t:Word.Tab w) (h:CmAt w b T pre post y) (ho:pre.size=o) (hA:Ar w p q s) (hne:b≠p∧b≠q) (hg:2≠p∧2≠q):Calls Tryz.prog 77 #[.pointer (some ⟨b,o,none⟩),.pointer (some ⟨p,0,none⟩)] w fun e w'=>e = .returned (.int .i64 (y.told s))∧Ar w' p q (y.act s)∧Fr [p,q] w w':=by
 have et:y.told s=0:=by unfold Cm.told;simp [hl]
 have ea:y.act s=s.store y.ps (Q0 y.sq 1):=by unfold Cm.act;simp [hl]
 rw [et,ea];obtain ⟨c0,c1,c2,c3,c4,c5,c6,c7,c8⟩:=cm_cells h ho;rw [hl] at c3;clear et ea hl;go_enter Tryz.func77,Tryz.ntmps77;go_wp2_with fail;refine qp A0f ?_;refine za [p,q] w #[true,true,true,true,true,true,true,false] 7 1 rfl ?_;refine envT_pass [true,true,true,true,true,true,true,false] 0 (n:=51) (listed':=#[true,true,true,true,true,true,true,false]) rfl A0f A0f A0f A0f A0f rfl A0f (fun _ _ d _ _ h=>by cases d <;> exact h) ((Fr.refl _ w).drew) ?_;apply qg;refine ⟨fun wf Ff=>?_,?_⟩
 ·have tf:=Gq_u.tab_kept t Ff (by simpa using hg);have hf:CmAt wf b T pre post y:=Pb.kept h Ff A0o;have k1:=qb (Ff.cell c1 A0o);simp only [sel];repeat (go_big_quiet_step ((go_at_call_of 120 (Value.int IntKind.i64 1);exact Calls.in_ (clm_any 1 (Gq_u.tab_up tf (In.fr _)) (Pb.up hf (In.fr _)) ho))))
  exact wpQuiet_nil rfl
 refine qy (k:=7) rfl A0f (fun w5 F5=>?_);have D5:=(Fr.refl [] w).drew.trans F5;have A5:=hA.kept D5 A0g A0g;clear c0 c1 c2 c3 c4 c5 c6 c7 c8;go_wp2_with fail;refine (Ar.ji _ p q s _ _ A5).mono ?_;rintro e w6 ⟨rfl,A6,F6⟩;exact A0a
theorem acc2 (hl:y.ln=2) (t:Word.Tab w) (h:CmAt w b T pre post y) (ho:pre.size=o) (hA:Ar w p q s):Calls Tryz.prog 77 #[.pointer (some ⟨b,o,none⟩),.pointer (some ⟨p,0,none⟩)] w fun e w'=>e = .returned (.int .i64 (y.told s))∧Ar w' p q (y.act s)∧Fr [p,q] w w':=by
 have et:y.told s=qw s.l 1:=by unfold Cm.told;simp [hl]
 have ea:y.act s=s.add 1 1:=by unfold Cm.act;simp [hl]
 rw [et,ea];obtain ⟨c0,c1,c2,c3,c4,c5,c6,c7,c8⟩:=cm_cells h ho;rw [hl] at c3;clear et ea hl;clear h t c0 c1 c2 c4 c5 c6 c7 c8;go_enter Tryz.func77,Tryz.ntmps77;go_wp2_with fail;refine (Ar.Kz _ p q s _ _ hA).mono ?_;rintro e w4 ⟨rfl,A4,F4⟩;go_wp2;go_ret;exact ⟨rfl,A4,F4⟩
set_option maxRecDepth 100000 in
theorem acc3 (hl:y.ln=3) (t:Word.Tab w) (h:CmAt w b T pre post y) (ho:pre.size=o) (hA:Ar w p q s) (hne:b≠p∧b≠q) (hg:2≠p∧2≠q):Calls Tryz.prog 77 #[.pointer (some ⟨b,o,none⟩),.pointer (some ⟨p,0,none⟩)] w fun e w'=>e = .returned (.int .i64 (y.told s))∧Ar w' p q (y.act s)∧Fr [p,q] w w':=by
 have et:y.told s=0:=by unfold Cm.told;simp [hl]
 have ea:y.act s=s.swap y.ps (Q0 y.sq 1) (Q0 y.sq (wrap64 (y.f2+2))):=by unfold Cm.act;simp [hl]
 rw [et,ea];obtain ⟨c0,c1,c2,c3,c4,c5,c6,c7,c8⟩:=cm_cells h ho;rw [hl] at c3;clear et ea hl;go_enter Tryz.func77,Tryz.ntmps77;go_wp2_with fail;refine qp A0f ?_;refine za [p,q] w #[true,true,true,true,true,true,true,true,true,true,true,true,true,true,true,false] 15 1 rfl ?_;refine envT_pass [true,true,true,true,true,true,true,true,true,true,true,true,true,true,true,false] 0 (n:=51) (listed':=#[true,true,true,true,true,true,true,true,true,true,true,true,true,true,true,false]) rfl A0f A0f A0f A0f A0f rfl A0f (fun _ _ d _ _ h=>by cases d <;> exact h) ((Fr.refl _ w).drew) ?_;apply qg;refine ⟨fun wf Ff=>?_,?_⟩
 ·have tf:=Gq_u.tab_kept t Ff (by simpa using hg);have hf:CmAt wf b T pre post y:=Pb.kept h Ff A0o;have k1:=qb (Ff.cell c1 A0o);have k6:=qb (Ff.cell c6 A0o);simp only [sel];repeat (go_big_quiet_step ((first | (go_at_call_of 120 (Value.int IntKind.i64 1);exact Calls.in_ (clm_any 1 (Gq_u.tab_up tf (In.fr _)) (Pb.up hf (In.fr _)) ho)) | (go_at_call 120;exact Calls.in_ (clm_any (wrap64 (y.f2+2)) (Gq_u.tab_up tf (In.fr _)) (Pb.up hf (In.fr _)) ho)))))
  exact wpQuiet_nil rfl
 refine qy (k:=15) rfl A0f (fun w5 F5=>?_);have D5:=(Fr.refl [] w).drew.trans F5;have A5:=hA.kept D5 A0g A0g;clear c0 c1 c2 c3 c4 c5 c6 c7 c8;go_wp2_with fail;refine (Ar.yt _ p q s _ _ _ A5).mono ?_;rintro e w6 ⟨rfl,A6,F6⟩;exact A0a
theorem acc4 (hl:y.ln=4) (t:Word.Tab w) (h:CmAt w b T pre post y) (ho:pre.size=o) (hA:Ar w p q s):Calls Tryz.prog 77 #[.pointer (some ⟨b,o,none⟩),.pointer (some ⟨p,0,none⟩)] w fun e w'=>e = .returned (.int .i64 (y.told s))∧Ar w' p q (y.act s)∧Fr [p,q] w w':=by
 have et:y.told s=qw s.l y.ps:=by unfold Cm.told;simp [hl]
 have ea:y.act s=s.load y.ps:=by unfold Cm.act;simp [hl]
 rw [et,ea];obtain ⟨c0,c1,c2,c3,c4,c5,c6,c7,c8⟩:=cm_cells h ho;rw [hl] at c3;clear et ea hl;clear h t c0 c2 c4 c5 c6 c7 c8;exact Pu
theorem acc_any (hl:0≤y.ln∧y.ln≤4) (t:Word.Tab w) (h:CmAt w b T pre post y) (ho:pre.size=o) (hA:Ar w p q s) (hne:b≠p∧b≠q) (hg:2≠p∧2≠q):Calls Tryz.prog 77 #[.pointer (some ⟨b,o,none⟩),.pointer (some ⟨p,0,none⟩)] w fun e w'=>e = .returned (.int .i64 (y.told s))∧Ar w' p q (y.act s)∧Fr [p,q] w w':=by
 rcases (by omega:y.ln=0∨y.ln=1∨y.ln=2∨y.ln=3∨y.ln=4) with e | e | e | e | e
 ·exact acc0 e t h ho hA
 ·exact acc1 e t h ho hA hne hg
 ·exact acc2 e t h ho hA
 ·exact acc3 e t h ho hA hne hg
 ·exact acc4 e t h ho hA
def PostS (w:World) (b p q:Nat) (T:TypeId) (pre post:Array Value) (y:Cm) (s:St) (e:Ending) (w':World):Prop:=e = .returned (.bool (decide (y.ln=5)))∧CmAt w' b T pre post y∧Ar w' p q s∧Fr [b,p,q] w w'
set_option maxHeartbeats 1600000 in
set_option maxRecDepth 100000 in
theorem step0 (hl:y.ln=0) (t:Word.Tab w) (h:CmAt w b T pre post y) (ho:pre.size=o) (hA:Ar w p q s) (hne:b≠p∧b≠q) (hg:2≠p∧2≠q):Calls Tryz.prog 37 #[.pointer (some ⟨b,o,none⟩),.pointer (some ⟨p,0,none⟩)] w (PostS w b p q T pre post (y.step s) (y.act s)):=by
 obtain ⟨c0,c1,c2,c3,c4,c5,c6,c7,c8⟩:=cm_cells h ho;have HS:=q9 (show ∀ wz,Fr [] w wz→Calls Tryz.prog 77 #[.pointer (some ⟨b,o,none⟩),.pointer (some ⟨p,0,none⟩)] wz fun e w'=>e = .returned (.int .i64 (y.told s))∧Ar w' p q (y.act s)∧Fr [p,q] wz w' from fun wz Fz=>acc_any A0e (Gq_u.tab_up t Fz) (Pb.up h Fz) ho (hA.kept Fz A0g A0g) hne hg);rw [hl] at c3;have q0:((0:Int) != 5)=true:=by decide
 have HL:=q9 (qc hl ho);have HH:=q9 h;have HNE:=q9 hne;clear hl ho t hA hg hne h c0 c1 c2;unfold Cm.step;have hpt:y.put (y.told s) = { y with f0:=y.told s }:=by unfold Cm.put;simp [HL.out.1]
 rw [hpt];have HU:=q9 hpt;clear hpt;generalize ht:y.told s=v at *;clear ht;go_enter Tryz.func37,Tryz.ntmps37;go_wp2_with fail;refine qp A0f ?_;refine Q3 0 rfl A0f A0f A0f rfl (fun _ _ d _ _ h=>by cases d <;> exact h) ?_;go_frame;simp only [Act.eval,Array.getD_eq_getD_getElem?,List.getElem?_toArray,List.getElem?_cons_zero,Option.getD_some];refine za [p,q] w #[true,true,true,true,true,true,true,true,true,true,true,false] 10 1 rfl ?_;refine envT_pass [false,true,true,true,true,true,true,false,true,true,false,false] 2 (n:=31) (listed':=#[true,true,true,true,true,true,true,false,true,true,false,false]) rfl A0f A0f A0f A0f A0f rfl A0f (fun _ _ d _ _ h=>by cases d <;> exact h) ((Fr.refl _ w).drew) ?_;apply qg;refine ⟨fun wf Ff=>?_,?_⟩
 ·exact Pq
 refine q81 7 A0f rfl rfl (fun w3 F3=>?_);have D3:=(Fr.refl [] w).drew.trans F3;clear F3 c3 c4 c5 c6 c7 c8;go_wp2_with fail;refine (HS.out _ D3).mono ?_;rintro e w4 ⟨rfl,A4,F4⟩;go_wp2_with fail;refine ql ⟨(D3.mono A0g).trans F4,?_⟩;refine q81 10 A0f rfl rfl (fun w4' F4'=>?_);replace A4:=A4.kept F4' A0g A0g;replace F4:=F4.then F4';clear F4';go_wp2_with fail;refine ql ⟨(D3.mono A0g).trans F4,?_⟩;refine qy (k:=11) rfl A0f (fun w5 F5=>?_);have A5:=A4.kept F5 A0g A0g;have D4:Fr [p,q] w w5:=((D3.mono A0g).trans F4).then F5;have h5:CmAt w5 b T pre post y:=Pb.kept HH.out D4 A0m;have D5:Fr [b,p,q] w w5:=D4.mono A0g;clear A4 F4 F5 D3 D4;have HP:=q9 (qc h5 (qc A5 D5));obtain ⟨c0,c1,c2,c3,c4,c5,c6,c7,c8⟩:=cm_cells h5 HL.out.2;have z5:=h5.frozen;clear h5 A5 D5;rw [HL.out.1] at c3;go_wp2_with fail;have h6:CmAt (w5.setCell ⟨b,o+4,none⟩ (.int .i64 v)) b T pre post { y with f0:=v }:=Pb.set HP.out.1 HL.out.2 (i:=4) (by show 4<9;omega) (.int .i64 v);have A6:Ar (w5.setCell ⟨b,o+4,none⟩ (.int .i64 v)) p q (y.act s):=HP.out.2.1.kept (Fr.setCell (S:=[b]) (b:=b) _ A0g) A0i A0j;have D6:=HP.out.2.2.setCell' (b:=b) (i:=o+4) (.int .i64 v) A0g;generalize (w5.setCell ⟨b,o+4,none⟩ (.int .i64 v))=w6 at *;clear c0 c1 c2 c3 c4 c5 c6 c7 c8 z5;refine (beh_any h6 HL.out.2).mono ?_;rintro e w7 ⟨rfl,F7⟩;have h7:CmAt w7 b T pre post { y with f0:=v }:=Pb.up h6 F7;have HR:=q9 (qc h7 (qc (A6.kept F7 A0g A0g) (D6.then F7)));have z7_u:=h7.frozen;obtain ⟨c0,c1,c2,c3,-⟩:=cm_cells h7 HL.out.2;clear h7 h6 A6 D6 F7 c0 c1 c2;generalize hlb:({ y with f0:=v }:Cm).behL=lb at *;exact Po
set_option maxHeartbeats 1600000 in
set_option maxRecDepth 100000 in
theorem step1 (hl:y.ln=1) (t:Word.Tab w) (h:CmAt w b T pre post y) (ho:pre.size=o) (hA:Ar w p q s) (hne:b≠p∧b≠q) (hg:2≠p∧2≠q):Calls Tryz.prog 37 #[.pointer (some ⟨b,o,none⟩),.pointer (some ⟨p,0,none⟩)] w (PostS w b p q T pre post (y.step s) (y.act s)):=by
 obtain ⟨c0,c1,c2,c3,c4,c5,c6,c7,c8⟩:=cm_cells h ho;have HS:=q9 (show ∀ wz,Fr [] w wz→Calls Tryz.prog 77 #[.pointer (some ⟨b,o,none⟩),.pointer (some ⟨p,0,none⟩)] wz fun e w'=>e = .returned (.int .i64 (y.told s))∧Ar w' p q (y.act s)∧Fr [p,q] wz w' from fun wz Fz=>acc_any A0e (Gq_u.tab_up t Fz) (Pb.up h Fz) ho (hA.kept Fz A0g A0g) hne hg);rw [hl] at c3;have q0:((1:Int) != 5)=true:=by decide
 have HL:=q9 (qc hl ho);have HH:=q9 h;have HNE:=q9 hne;clear hl ho t hA hg hne h c0 c1 c2;unfold Cm.step;have hpt:y.put (y.told s) = { y with f1:=y.told s }:=by unfold Cm.put;simp [HL.out.1]
 rw [hpt];have HU:=q9 hpt;clear hpt;generalize ht:y.told s=v at *;clear ht;go_enter Tryz.func37,Tryz.ntmps37;go_wp2_with fail;refine qp A0f ?_;refine Q3 0 rfl A0f A0f A0f rfl (fun _ _ d _ _ h=>by cases d <;> exact h) ?_;go_frame;simp only [Act.eval,Array.getD_eq_getD_getElem?,List.getElem?_toArray,List.getElem?_cons_zero,Option.getD_some];refine za [p,q] w #[true,true,true,true,true,true,true,true,true,true,true,false] 10 1 rfl ?_;refine envT_pass [false,true,true,true,true,true,true,false,true,true,false,false] 2 (n:=31) (listed':=#[true,true,true,true,true,true,true,false,true,true,false,false]) rfl A0f A0f A0f A0f A0f rfl A0f (fun _ _ d _ _ h=>by cases d <;> exact h) ((Fr.refl _ w).drew) ?_;apply qg;refine ⟨fun wf Ff=>?_,?_⟩
 ·exact Pq
 refine q81 7 A0f rfl rfl (fun w3 F3=>?_);have D3:=(Fr.refl [] w).drew.trans F3;clear F3 c3 c4 c5 c6 c7 c8;go_wp2_with fail;refine (HS.out _ D3).mono ?_;rintro e w4 ⟨rfl,A4,F4⟩;go_wp2_with fail;refine ql ⟨(D3.mono A0g).trans F4,?_⟩;refine q81 10 A0f rfl rfl (fun w4' F4'=>?_);replace A4:=A4.kept F4' A0g A0g;replace F4:=F4.then F4';clear F4';go_wp2_with fail;refine ql ⟨(D3.mono A0g).trans F4,?_⟩;refine qy (k:=11) rfl A0f (fun w5 F5=>?_);have A5:=A4.kept F5 A0g A0g;have D4:Fr [p,q] w w5:=((D3.mono A0g).trans F4).then F5;have h5:CmAt w5 b T pre post y:=Pb.kept HH.out D4 A0m;have D5:Fr [b,p,q] w w5:=D4.mono A0g;clear A4 F4 F5 D3 D4;have HP:=q9 (qc h5 (qc A5 D5));obtain ⟨c0,c1,c2,c3,c4,c5,c6,c7,c8⟩:=cm_cells h5 HL.out.2;have z5:=h5.frozen;clear h5 A5 D5;rw [HL.out.1] at c3;go_wp2_with fail;have h6:CmAt (w5.setCell ⟨b,o+4+1,none⟩ (.int .i64 v)) b T pre post { y with f1:=v }:=Pb.set HP.out.1 HL.out.2 (i:=5) (by show 5<9;omega) (.int .i64 v);have A6:Ar (w5.setCell ⟨b,o+4+1,none⟩ (.int .i64 v)) p q (y.act s):=HP.out.2.1.kept (Fr.setCell (S:=[b]) (b:=b) _ A0g) A0i A0j;have D6:=HP.out.2.2.setCell' (b:=b) (i:=o+4+1) (.int .i64 v) A0g;generalize (w5.setCell ⟨b,o+4+1,none⟩ (.int .i64 v))=w6 at *;clear c0 c1 c2 c3 c4 c5 c6 c7 c8 z5;refine (beh_any h6 HL.out.2).mono ?_;rintro e w7 ⟨rfl,F7⟩;have h7:CmAt w7 b T pre post { y with f1:=v }:=Pb.up h6 F7;have HR:=q9 (qc h7 (qc (A6.kept F7 A0g A0g) (D6.then F7)));have z7_u:=h7.frozen;obtain ⟨c0,c1,c2,c3,-⟩:=cm_cells h7 HL.out.2;clear h7 h6 A6 D6 F7 c0 c1 c2;generalize hlb:({ y with f1:=v }:Cm).behL=lb at *;exact Po
set_option maxHeartbeats 1600000 in
set_option maxRecDepth 100000 in
theorem step2 (hl:y.ln=2) (t:Word.Tab w) (h:CmAt w b T pre post y) (ho:pre.size=o) (hA:Ar w p q s) (hne:b≠p∧b≠q) (hg:2≠p∧2≠q):Calls Tryz.prog 37 #[.pointer (some ⟨b,o,none⟩),.pointer (some ⟨p,0,none⟩)] w (PostS w b p q T pre post (y.step s) (y.act s)):=by
 obtain ⟨c0,c1,c2,c3,c4,c5,c6,c7,c8⟩:=cm_cells h ho;have HS:=q9 (show ∀ wz,Fr [] w wz→Calls Tryz.prog 77 #[.pointer (some ⟨b,o,none⟩),.pointer (some ⟨p,0,none⟩)] wz fun e w'=>e = .returned (.int .i64 (y.told s))∧Ar w' p q (y.act s)∧Fr [p,q] wz w' from fun wz Fz=>acc_any A0e (Gq_u.tab_up t Fz) (Pb.up h Fz) ho (hA.kept Fz A0g A0g) hne hg);rw [hl] at c3;have q0:((2:Int) != 5)=true:=by decide
 have HL:=q9 (qc hl ho);have HH:=q9 h;have HNE:=q9 hne;clear hl ho t hA hg hne h c0 c1 c2;unfold Cm.step;have hpt:y.put (y.told s) = { y with f2:=y.told s }:=by unfold Cm.put;simp [HL.out.1]
 rw [hpt];have HU:=q9 hpt;clear hpt;generalize ht:y.told s=v at *;clear ht;go_enter Tryz.func37,Tryz.ntmps37;go_wp2_with fail;refine qp A0f ?_;refine Q3 0 rfl A0f A0f A0f rfl (fun _ _ d _ _ h=>by cases d <;> exact h) ?_;go_frame;simp only [Act.eval,Array.getD_eq_getD_getElem?,List.getElem?_toArray,List.getElem?_cons_zero,Option.getD_some];refine za [p,q] w #[true,true,true,true,true,true,true,true,true,true,true,false] 10 1 rfl ?_;refine envT_pass [false,true,true,true,true,true,true,false,true,true,false,false] 2 (n:=31) (listed':=#[true,true,true,true,true,true,true,false,true,true,false,false]) rfl A0f A0f A0f A0f A0f rfl A0f (fun _ _ d _ _ h=>by cases d <;> exact h) ((Fr.refl _ w).drew) ?_;apply qg;refine ⟨fun wf Ff=>?_,?_⟩
 ·exact Pq
 refine q81 7 A0f rfl rfl (fun w3 F3=>?_);have D3:=(Fr.refl [] w).drew.trans F3;clear F3 c3 c4 c5 c6 c7 c8;go_wp2_with fail;refine (HS.out _ D3).mono ?_;rintro e w4 ⟨rfl,A4,F4⟩;go_wp2_with fail;refine ql ⟨(D3.mono A0g).trans F4,?_⟩;refine q81 10 A0f rfl rfl (fun w4' F4'=>?_);replace A4:=A4.kept F4' A0g A0g;replace F4:=F4.then F4';clear F4';go_wp2_with fail;refine ql ⟨(D3.mono A0g).trans F4,?_⟩;refine qy (k:=11) rfl A0f (fun w5 F5=>?_);have A5:=A4.kept F5 A0g A0g;have D4:Fr [p,q] w w5:=((D3.mono A0g).trans F4).then F5;have h5:CmAt w5 b T pre post y:=Pb.kept HH.out D4 A0m;have D5:Fr [b,p,q] w w5:=D4.mono A0g;clear A4 F4 F5 D3 D4;have HP:=q9 (qc h5 (qc A5 D5));obtain ⟨c0,c1,c2,c3,c4,c5,c6,c7,c8⟩:=cm_cells h5 HL.out.2;have z5:=h5.frozen;clear h5 A5 D5;rw [HL.out.1] at c3;go_wp2_with fail;have h6:CmAt (w5.setCell ⟨b,o+4+2,none⟩ (.int .i64 v)) b T pre post { y with f2:=v }:=Pb.set HP.out.1 HL.out.2 (i:=6) (by show 6<9;omega) (.int .i64 v);have A6:Ar (w5.setCell ⟨b,o+4+2,none⟩ (.int .i64 v)) p q (y.act s):=HP.out.2.1.kept (Fr.setCell (S:=[b]) (b:=b) _ A0g) A0i A0j;have D6:=HP.out.2.2.setCell' (b:=b) (i:=o+4+2) (.int .i64 v) A0g;generalize (w5.setCell ⟨b,o+4+2,none⟩ (.int .i64 v))=w6 at *;clear c0 c1 c2 c3 c4 c5 c6 c7 c8 z5;refine (beh_any h6 HL.out.2).mono ?_;rintro e w7 ⟨rfl,F7⟩;have h7:CmAt w7 b T pre post { y with f2:=v }:=Pb.up h6 F7;have HR:=q9 (qc h7 (qc (A6.kept F7 A0g A0g) (D6.then F7)));have z7_u:=h7.frozen;obtain ⟨c0,c1,c2,c3,-⟩:=cm_cells h7 HL.out.2;clear h7 h6 A6 D6 F7 c0 c1 c2;generalize hlb:({ y with f2:=v }:Cm).behL=lb at *;exact Po
set_option maxHeartbeats 1600000 in
set_option maxRecDepth 100000 in
theorem step3 (hl:y.ln=3) (t:Word.Tab w) (h:CmAt w b T pre post y) (ho:pre.size=o) (hA:Ar w p q s) (hne:b≠p∧b≠q) (hg:2≠p∧2≠q):Calls Tryz.prog 37 #[.pointer (some ⟨b,o,none⟩),.pointer (some ⟨p,0,none⟩)] w (PostS w b p q T pre post (y.step s) (y.act s)):=by
 obtain ⟨c0,c1,c2,c3,c4,c5,c6,c7,c8⟩:=cm_cells h ho;have HS:=q9 (show ∀ wz,Fr [] w wz→Calls Tryz.prog 77 #[.pointer (some ⟨b,o,none⟩),.pointer (some ⟨p,0,none⟩)] wz fun e w'=>e = .returned (.int .i64 (y.told s))∧Ar w' p q (y.act s)∧Fr [p,q] wz w' from fun wz Fz=>acc_any A0e (Gq_u.tab_up t Fz) (Pb.up h Fz) ho (hA.kept Fz A0g A0g) hne hg);rw [hl] at c3;have q0:((3:Int) != 5)=true:=by decide
 have HL:=q9 (qc hl ho);have HH:=q9 h;have HNE:=q9 hne;clear hl ho t hA hg hne h c0 c1 c2;unfold Cm.step;have hpt:y.put (y.told s) = { y with f3:=y.told s }:=by unfold Cm.put;simp [HL.out.1]
 rw [hpt];have HU:=q9 hpt;clear hpt;generalize ht:y.told s=v at *;clear ht;go_enter Tryz.func37,Tryz.ntmps37;go_wp2_with fail;refine qp A0f ?_;refine Q3 0 rfl A0f A0f A0f rfl (fun _ _ d _ _ h=>by cases d <;> exact h) ?_;go_frame;simp only [Act.eval,Array.getD_eq_getD_getElem?,List.getElem?_toArray,List.getElem?_cons_zero,Option.getD_some];refine za [p,q] w #[true,true,true,true,true,true,true,true,true,true,true,false] 10 1 rfl ?_;refine envT_pass [false,true,true,true,true,true,true,false,true,true,false,false] 2 (n:=31) (listed':=#[true,true,true,true,true,true,true,false,true,true,false,false]) rfl A0f A0f A0f A0f A0f rfl A0f (fun _ _ d _ _ h=>by cases d <;> exact h) ((Fr.refl _ w).drew) ?_;apply qg;refine ⟨fun wf Ff=>?_,?_⟩
 ·exact Pq
 refine q81 7 A0f rfl rfl (fun w3 F3=>?_);have D3:=(Fr.refl [] w).drew.trans F3;clear F3 c3 c4 c5 c6 c7 c8;go_wp2_with fail;refine (HS.out _ D3).mono ?_;rintro e w4 ⟨rfl,A4,F4⟩;go_wp2_with fail;refine ql ⟨(D3.mono A0g).trans F4,?_⟩;refine q81 10 A0f rfl rfl (fun w4' F4'=>?_);replace A4:=A4.kept F4' A0g A0g;replace F4:=F4.then F4';clear F4';go_wp2_with fail;refine ql ⟨(D3.mono A0g).trans F4,?_⟩;refine qy (k:=11) rfl A0f (fun w5 F5=>?_);have A5:=A4.kept F5 A0g A0g;have D4:Fr [p,q] w w5:=((D3.mono A0g).trans F4).then F5;have h5:CmAt w5 b T pre post y:=Pb.kept HH.out D4 A0m;have D5:Fr [b,p,q] w w5:=D4.mono A0g;clear A4 F4 F5 D3 D4;have HP:=q9 (qc h5 (qc A5 D5));obtain ⟨c0,c1,c2,c3,c4,c5,c6,c7,c8⟩:=cm_cells h5 HL.out.2;have z5:=h5.frozen;clear h5 A5 D5;rw [HL.out.1] at c3;go_wp2_with fail;have h6:CmAt (w5.setCell ⟨b,o+4+3,none⟩ (.int .i64 v)) b T pre post { y with f3:=v }:=Pb.set HP.out.1 HL.out.2 (i:=7) (by show 7<9;omega) (.int .i64 v);have A6:Ar (w5.setCell ⟨b,o+4+3,none⟩ (.int .i64 v)) p q (y.act s):=HP.out.2.1.kept (Fr.setCell (S:=[b]) (b:=b) _ A0g) A0i A0j;have D6:=HP.out.2.2.setCell' (b:=b) (i:=o+4+3) (.int .i64 v) A0g;generalize (w5.setCell ⟨b,o+4+3,none⟩ (.int .i64 v))=w6 at *;clear c0 c1 c2 c3 c4 c5 c6 c7 c8 z5;refine (beh_any h6 HL.out.2).mono ?_;rintro e w7 ⟨rfl,F7⟩;have h7:CmAt w7 b T pre post { y with f3:=v }:=Pb.up h6 F7;have HR:=q9 (qc h7 (qc (A6.kept F7 A0g A0g) (D6.then F7)));have z7_u:=h7.frozen;obtain ⟨c0,c1,c2,c3,-⟩:=cm_cells h7 HL.out.2;clear h7 h6 A6 D6 F7 c0 c1 c2;generalize hlb:({ y with f3:=v }:Cm).behL=lb at *;exact Po
set_option maxHeartbeats 1600000 in
set_option maxRecDepth 100000 in
theorem step4 (hl:y.ln=4) (t:Word.Tab w) (h:CmAt w b T pre post y) (ho:pre.size=o) (hA:Ar w p q s) (hne:b≠p∧b≠q) (hg:2≠p∧2≠q):Calls Tryz.prog 37 #[.pointer (some ⟨b,o,none⟩),.pointer (some ⟨p,0,none⟩)] w (PostS w b p q T pre post (y.step s) (y.act s)):=by
 obtain ⟨c0,c1,c2,c3,c4,c5,c6,c7,c8⟩:=cm_cells h ho;have HS:=q9 (show ∀ wz,Fr [] w wz→Calls Tryz.prog 77 #[.pointer (some ⟨b,o,none⟩),.pointer (some ⟨p,0,none⟩)] wz fun e w'=>e = .returned (.int .i64 (y.told s))∧Ar w' p q (y.act s)∧Fr [p,q] wz w' from fun wz Fz=>acc_any A0e (Gq_u.tab_up t Fz) (Pb.up h Fz) ho (hA.kept Fz A0g A0g) hne hg);rw [hl] at c3;have q0:((4:Int) != 5)=true:=by decide
 have HL:=q9 (qc hl ho);have HH:=q9 h;have HNE:=q9 hne;clear hl ho t hA hg hne h c0 c1 c2;unfold Cm.step;have hpt:y.put (y.told s) = { y with f4:=y.told s }:=by unfold Cm.put;simp [HL.out.1]
 rw [hpt];have HU:=q9 hpt;clear hpt;generalize ht:y.told s=v at *;clear ht;go_enter Tryz.func37,Tryz.ntmps37;go_wp2_with fail;refine qp A0f ?_;refine Q3 0 rfl A0f A0f A0f rfl (fun _ _ d _ _ h=>by cases d <;> exact h) ?_;go_frame;simp only [Act.eval,Array.getD_eq_getD_getElem?,List.getElem?_toArray,List.getElem?_cons_zero,Option.getD_some];refine za [p,q] w #[true,true,true,true,true,true,true,true,true,true,true,false] 10 1 rfl ?_;refine envT_pass [false,true,true,true,true,true,true,false,true,true,false,false] 2 (n:=31) (listed':=#[true,true,true,true,true,true,true,false,true,true,false,false]) rfl A0f A0f A0f A0f A0f rfl A0f (fun _ _ d _ _ h=>by cases d <;> exact h) ((Fr.refl _ w).drew) ?_;apply qg;refine ⟨fun wf Ff=>?_,?_⟩
 ·exact Pq
 refine q81 7 A0f rfl rfl (fun w3 F3=>?_);have D3:=(Fr.refl [] w).drew.trans F3;clear F3 c3 c4 c5 c6 c7 c8;go_wp2_with fail;refine (HS.out _ D3).mono ?_;rintro e w4 ⟨rfl,A4,F4⟩;go_wp2_with fail;refine ql ⟨(D3.mono A0g).trans F4,?_⟩;refine q81 10 A0f rfl rfl (fun w4' F4'=>?_);replace A4:=A4.kept F4' A0g A0g;replace F4:=F4.then F4';clear F4';go_wp2_with fail;refine ql ⟨(D3.mono A0g).trans F4,?_⟩;refine qy (k:=11) rfl A0f (fun w5 F5=>?_);have A5:=A4.kept F5 A0g A0g;have D4:Fr [p,q] w w5:=((D3.mono A0g).trans F4).then F5;have h5:CmAt w5 b T pre post y:=Pb.kept HH.out D4 A0m;have D5:Fr [b,p,q] w w5:=D4.mono A0g;clear A4 F4 F5 D3 D4;have HP:=q9 (qc h5 (qc A5 D5));obtain ⟨c0,c1,c2,c3,c4,c5,c6,c7,c8⟩:=cm_cells h5 HL.out.2;have z5:=h5.frozen;clear h5 A5 D5;rw [HL.out.1] at c3;go_wp2_with fail;have h6:CmAt (w5.setCell ⟨b,o+4+4,none⟩ (.int .i64 v)) b T pre post { y with f4:=v }:=Pb.set HP.out.1 HL.out.2 (i:=8) (by show 8<9;omega) (.int .i64 v);have A6:Ar (w5.setCell ⟨b,o+4+4,none⟩ (.int .i64 v)) p q (y.act s):=HP.out.2.1.kept (Fr.setCell (S:=[b]) (b:=b) _ A0g) A0i A0j;have D6:=HP.out.2.2.setCell' (b:=b) (i:=o+4+4) (.int .i64 v) A0g;generalize (w5.setCell ⟨b,o+4+4,none⟩ (.int .i64 v))=w6 at *;clear c0 c1 c2 c3 c4 c5 c6 c7 c8 z5;refine (beh_any h6 HL.out.2).mono ?_;rintro e w7 ⟨rfl,F7⟩;have h7:CmAt w7 b T pre post { y with f4:=v }:=Pb.up h6 F7;have HR:=q9 (qc h7 (qc (A6.kept F7 A0g A0g) (D6.then F7)));have z7_u:=h7.frozen;obtain ⟨c0,c1,c2,c3,-⟩:=cm_cells h7 HL.out.2;clear h7 h6 A6 D6 F7 c0 c1 c2;generalize hlb:({ y with f4:=v }:Cm).behL=lb at *;exact Po
theorem step_any (hl:0≤y.ln∧y.ln≤5) (t:Word.Tab w) (h:CmAt w b T pre post y) (ho:pre.size=o) (hA:Ar w p q s) (hne:b≠p∧b≠q) (hg:2≠p∧2≠q):Calls Tryz.prog 37 #[.pointer (some ⟨b,o,none⟩),.pointer (some ⟨p,0,none⟩)] w (PostS w b p q T pre post (if y.ln=5 then y else y.step s) (if y.ln=5 then s else y.act s)):=by
 by_cases e5:y.ln=5
 ·rw [qf e5,qf e5];obtain ⟨c0,c1,c2,c3,-⟩:=cm_cells h ho;have HS:=q9 (qc h (qc hA e5));rw [e5] at c3;clear h hA hl e5 t c0 c1 c2 hne hg ho;go_enter Tryz.func37,Tryz.ntmps37;go_wp2;go_ret;exact ⟨by rw [decide_eq_true HS.out.2.2];rfl,HS.out.1,HS.out.2.1,Fr.refl _ _⟩
 ·rw [qd e5,qd e5];rcases (by omega:y.ln=0∨y.ln=1∨y.ln=2∨y.ln=3∨y.ln=4) with e | e | e | e | e
  ·exact step0 e t h ho hA hne hg
  ·exact step1 e t h ho hA hne hg
  ·exact step2 e t h ho hA hne hg
  ·exact step3 e t h ho hA hne hg
  ·exact step4 e t h ho hA hne hg
end
end Go.Proofs.YtnaahjlpldnjjaaGreatDoor.Kc_u
namespace Go.Proofs.YtnaahjlpldnjjaaGreatDoor.Kc_u
open Go.RowKit Go.Proofs.YtnaahjlpldnjjaaGreatDoor.Ar Go.Proofs.YtnaahjlpldnjjaaGreatDoor.Mx
set_option linter.unusedVariables false
set_option linter.unusedSimpArgs false
def Cm.new (vs t sq:Int):Cm:=⟨vs,3+t,sq,0,0,0,0,0,0⟩
def Cm.ver (y:Cm):Int:=if y.ln=5 then (if y.vs≤y.f0 then 0 else ku y.f4 - 2) else 0
def Cm.err (y:Cm):Int:=if y.ln=5 then (if y.vs≤y.f0 then 15 else 0) else 0
theorem qbe (c:Cf) (t sq:Int) (ht:0≤t∧t≤8) (w:World):Calls Tryz.prog 36 #[c.val,.int .i64 t,.int .i64 sq] w fun e w'=>∃ b,e = .returned (.pointer (some ⟨b,0,none⟩))∧w.heap.size≤b∧CmAt w' b 105 #[] #[] (Cm.new c.v t sq)∧Fr [] w w':=by
 unfold Cf.val;obtain ⟨c0,c1,c2,c3⟩:=Pl.yn (Go.heap_alloc_new w (.cells #[.int .i64 c.t,.int .i64 c.c,.int .i64 c.wd,.int .i64 c.v] 23));have F0:=(Fr.refl [] w).alloc (.cells #[.int .i64 c.t,.int .i64 c.c,.int .i64 c.wd,.int .i64 c.v] 23);have hh:=q9 (fun w=>Pl.wm t ht.1 ht.2 w);clear ht;go_enter Tryz.func36,Tryz.ntmps36;go_wp2_with fail;generalize hw1:(w.alloc (.cells #[.int .i64 c.t,.int .i64 c.c,.int .i64 c.wd,.int .i64 c.v] 23))=w1 at *;refine qp A0f ?_;refine za [] w1 #[true,true,true,true,true,true,false,false] 6 2 rfl ?_;refine envT_pass [true,true,true,true,true,true,false,false] 0 (n:=14) (listed':=#[true,true,true,true,true,true,false,false]) rfl A0f A0f A0f A0f A0f rfl A0f (fun _ _ d _ _ h=>by cases d <;> exact h) ((Fr.refl _ w1).drew) ?_;apply qg;refine ⟨fun wf Ff=>?_,?_⟩
 ·have k3:=qb (Ff.cell c3 A0g);simp only [sel];repeat (go_big_quiet_step ((go_at_call 38;exact Calls.in_same (hh.out _))))
  exact wpQuiet_nil rfl
 refine qy (k:=6) rfl A0f (fun w5 F5=>?_);have F1:=F0.trans (((Fr.refl [] w1).drew).trans F5);clear c0 c1 c2 c3 hh F0;go_wp2_with fail;go_ret;exact ⟨w5.heap.size,rfl,F1.size,Ob.newAt rfl _ _,F1.alloc _⟩
section
variable {w:World} {b o p q:Nat} {T:TypeId} {pre post:Array Value} {y:Cm} {s:St}
theorem part_bd (a:Int):0≤ku a∧ku a<16777216:=by unfold ku;omega
def PostV (w:World) (v n:Int) (e:Ending) (w':World):Prop:=e = .returned (.tuple #[.int .i64 v,Pl.qch n])∧Fr [] w w'
theorem Vf (h:CmAt w b T pre post y) (ho:pre.size=o):Calls Tryz.prog 43 #[.pointer (some ⟨b,o,none⟩)] w (PostV w y.ver y.err):=by
 have HN:=q9 (qc (none_any h ho) (qc h ho));obtain ⟨c0,c1,c2,c3,c4,c5,c6,c7,c8⟩:=cm_cells h ho;by_cases e5:y.ln=5
 case neg =>
  have g:(y.ln != 5)=true:=by simpa using e5
  have e1:y.ver=0:=by unfold Cm.ver;rw [qd e5]
  have e2:y.err=0:=by unfold Cm.err;rw [qd e5]
  rw [e1,e2];clear e5 e1 e2 h ho;go_enter Tryz.func43,Tryz.ntmps43;go_wp2;exact bodyPost_ret (v:=.tuple #[.int .i64 0,.nilIface]) A0p rfl ⟨rfl,Fr.refl _ _⟩
 have g:(y.ln != 5)=false:=by simpa using e5
 by_cases ev:y.vs≤y.f0
 ·have e1:y.ver=0:=by unfold Cm.ver;rw [qf e5,qf ev]
  have e2:y.err=15:=by unfold Cm.err;rw [qf e5,qf ev]
  rw [e1,e2];rw [decide_eq_true ev] at HN;rw [e5] at c3;clear e5 e1 e2 h ho ev g;have q0:((5:Int) != 5)=false:=by decide
  go_enter Tryz.func43,Tryz.ntmps43;go_wp2_with fail;refine HN.out.1.mono ?_;rintro e w2 ⟨rfl,F2⟩;go_wp2;exact bodyPost_ret (v:=.tuple #[.int .i64 0,.iface 112 (.int .i64 15)]) A0p rfl ⟨rfl,F2⟩
 ·have e1:y.ver=ku y.f4 - 2:=by unfold Cm.ver;rw [qf e5,qd ev]
  have e2:y.err=0:=by unfold Cm.err;rw [qf e5,qd ev]
  rw [e1,e2];rw [decide_eq_false ev] at HN;rw [e5] at c3;clear e5 e1 e2 h ho ev g c0 c1 c2 c4 c5 c6 c7 c8;have q0:((5:Int) != 5)=false:=by decide
  have HB:=q9 (part_bd y.f4);go_enter Tryz.func43,Tryz.ntmps43;go_wp2_with fail;refine HN.out.1.mono ?_;rintro e w2 ⟨rfl,F2⟩;obtain ⟨c0,c1,c2,c3,c4,c5,c6,c7,c8⟩:=cm_cells (Pb.up HN.out.2.1 F2) HN.out.2.2;clear c0 c1 c2 c4 c5 c6 c7;go_wp2_with fail;refine (Word.Xn y.f4 _).mono ?_;rintro e w3 ⟨rfl,rfl⟩;rw [show y.f4 % 16777216=ku y.f4 from rfl];have hw:wrap64 (ku y.f4 - 2)=ku y.f4 - 2:=w64 (by have:=HB.out;omega) (by have:=HB.out;omega);generalize ku y.f4=pv at *;have hb:=HB.out;go_wp2;exact bodyPost_ret (v:=.tuple #[.int .i64 (pv - 2),.nilIface]) (by simp [results,Tryz.results43,go_sem,hw]) rfl ⟨rfl,F2⟩
end
def KcIs (w:World) (b:Nat) (y:Cm):Prop:=CmAt w b 105 #[] #[] y
theorem KcIs.up {w w':World} {b:Nat} {y:Cm} (h:KcIs w b y) (f:Fr [] w w'):KcIs w' b y:=Pb.up h f
def Cm.go (y:Cm) (s:St):Cm×St:=if y.ln=5 then (y,s) else (y.step s,y.act s)
def runC:Nat→Cm→St→Cm×St
 | 0,y,s=>(y,s)
 | n+1,y,s=>let r:=runC n y s;r.1.go r.2
theorem behL_bd {y:Cm} (h:0≤y.ln∧y.ln≤4):0≤y.behL∧y.behL≤5:=by
 unfold Cm.behL;split
 ·omega
 ·rw [w64 A0e A0e];omega
theorem put_ln (y:Cm) (v:Int):(y.put v).ln=y.ln:=by
 unfold Cm.put;repeat' split
 all_goals rfl
theorem go_ln {y:Cm} {s:St} (h:0≤y.ln∧y.ln≤5):0≤(y.go s).1.ln∧(y.go s).1.ln≤5:=by
 unfold Cm.go;by_cases e:y.ln=5
 ·rw [qf e];exact h
 ·rw [qd e];exact behL_bd (by rw [put_ln];omega)
theorem run_ln {y:Cm} {s:St} (h:0≤y.ln∧y.ln≤5):∀ n,0≤(runC n y s).1.ln∧(runC n y s).1.ln≤5
 | 0=>h
 | n+1=>go_ln (run_ln h n)
theorem kstep_any {w:World} {b p q:Nat} {y:Cm} {s:St} (hl:0≤y.ln∧y.ln≤5) (t:Word.Tab w) (h:KcIs w b y) (hA:Ar w p q s) (hne:b≠p∧b≠q) (hg:2≠p∧2≠q):Calls Tryz.prog 37 #[.pointer (some ⟨b,0,none⟩),.pointer (some ⟨p,0,none⟩)] w fun e w'=>e = .returned (.bool (decide ((y.go s).1.ln=5)))∧KcIs w' b (y.go s).1∧Ar w' p q (y.go s).2∧Fr [b,p,q] w w':=by
 refine (step_any (o:=0) hl t h rfl hA hne hg).mono ?_;unfold PostS Cm.go;rintro e w' hh;by_cases e5:y.ln=5
 ·rw [qf e5,qf e5] at hh;rw [qf e5];exact hh
 ·rw [qd e5,qd e5] at hh;rw [qd e5];exact hh
end Go.Proofs.YtnaahjlpldnjjaaGreatDoor.Kc_u
namespace Go.Proofs.YtnaahjlpldnjjaaGreatDoor.Kc_u
open Go.RowKit Go.Proofs.YtnaahjlpldnjjaaGreatDoor.Ar Go.Proofs.YtnaahjlpldnjjaaGreatDoor.Mx
set_option linter.unusedVariables false
set_option linter.unusedSimpArgs false
set_option maxRecDepth 100000
def s0:St:=Pl.begun 2 4 100
def y0:Cm:=⟨1000,4,3,0,0,0,0,0,0⟩
def y1:Cm:=⟨1,3,1,0,0,0,0,0,0⟩
theorem go5:(runC 5 y0 s0).1.ln=5∧(runC 5 y0 s0).1.ver=0∧(runC 5 y0 s0).1.err=0:=by decide +kernel
theorem go4:∀ k,k<5→(runC k y0 s0).1.ln≠5:=by decide +kernel
theorem pk5:qw ((y1.go (runC 5 y0 s0).2).2).l 1=1∧qw ((y1.go (runC 5 y0 s0).2).2).l 4=50331650:=by decide +kernel
theorem one:(y1.go (runC 5 y0 s0).2).1.ln=5∧(y1.go (runC 5 y0 s0).2).1.err=15∧(y1.go (runC 5 y0 s0).2).1.ver=0:=by decide +kernel
theorem tabLt {w:World} (t:Word.Tab w):2<w.heap.size:=World.block_lt_of_cell? w _ t.1
theorem new1 (w:World):Calls Tryz.prog 36 #[.agg #[.int .i64 2,.int .i64 4,.int .i64 100,.int .i64 1000],.int .i64 1,.int .i64 3] w fun e w'=>∃ b,e = .returned (.pointer (some ⟨b,0,none⟩))∧w.heap.size≤b∧KcIs w' b y0∧Fr [] w w':=qbe ⟨2,4,100,1000⟩ 1 3 A0q w
theorem new2 (w:World):Calls Tryz.prog 36 #[.agg #[.int .i64 2,.int .i64 4,.int .i64 100,.int .i64 1],.int .i64 0,.int .i64 1] w fun e w'=>∃ b,e = .returned (.pointer (some ⟨b,0,none⟩))∧w.heap.size≤b∧KcIs w' b y1∧Fr [] w w':=qbe ⟨2,4,100,1⟩ 0 1 A0q w
def KcR (W:World) (b p q:Nat) (y:Cm) (s:St) (v:Value) (wr:World):Prop:=∃ k,v = .int .i64 (k:Nat)∧k<5∧KcIs wr b (runC k y s).1∧Ar wr p q (runC k y s).2∧Fr [b,p,q] W wr
set_option maxHeartbeats 3200000 in
theorem known_true (w:World) (t:Word.Tab w):Calls Tryz.prog 35 #[] w fun e w'=>e = .returned (.bool true)∧Fr [] w w':=by
 have isE:=Er.isE;go_enter Tryz.func35,Tryz.ntmps35;go_wp2_with fail;refine (Pl.conf_any 2 4 100 _).mono ?_;rintro e w1 ⟨rfl,F1⟩;have G:=F1.alloc (.cells #[.int .i64 2,.int .i64 4,.int .i64 100,.int .i64 1000] 23);have oc:=Ob.new w1 23 #[.int .i64 2,.int .i64 4,.int .i64 100,.int .i64 1000];obtain ⟨c0,c1,c2,c3⟩:=Pl.yn oc;have hcw:=oc.lt;have hw1:=F1.size;clear F1;go_wp2_with fail;refine (Pl.make_yes 2 4 100 1000 A0q _).mono ?_;rintro e w2 ⟨p,q,rfl,hp,hq,A,F2⟩;rw [Yi] at hp hq;replace oc:=oc.up F2;have hA2:=A.lt;replace G:=G.trans F2;have A:Ar w2 p q s0:=A;clear F2 c0 c1 c2 c3;generalize hbc:w1.heap.size=bc at *;obtain ⟨c0,c1,c2,c3⟩:=Pl.yn oc;have hcl:=oc.lt;have hG:=G.size;go_wp2_with fail;refine (new1 _).mono ?_;rintro e w3 ⟨b,rfl,hb,D,F3⟩;replace A:=A.kept F3 A0g A0g;replace oc:=oc.up F3;replace G:=G.trans F3;have hlt:=tabLt t;have HN:=q9 (show (b≠p∧b≠q)∧(2≠p∧2≠q∧2≠b∧2≠bc)∧(bc≠b∧bc≠p∧bc≠q)∧(w.heap.size≤b∧w.heap.size≤p∧w.heap.size≤q∧w.heap.size≤bc) by omega);have HT:=q9 (Gq_u.tab_up t G);have HO:=q9 oc;have HG:=q9 G;clear F3 c0 c1 c2 c3 t hcw hw1 hp hq hA2 hcl hG hb hlt oc G hbc;go_wp2_with fail;go_loopw [5] (KcR w3 b p q y0 s0) (fun v _=>20 - (intOf v).toNat);case atStart=>exact ⟨0,rfl,by omega,D,A,Fr.refl _ _⟩
 ·skip;obtain ⟨k,rfl,hk5,D2,A2,F2⟩:=hrel;have HS:=q9 (kstep_any (run_ln (y:=y0) (s:=s0) A0q k) (Gq_u.tab_kept HT.out F2 A0l) D2 A2 HN.out.1 ⟨HN.out.2.1.1,HN.out.2.1.2.1⟩);have HF:=q9 F2;have g1:decide ((k:Int)<9)=true:=by simp;omega
  clear D2 A2 F2;go_wp2_with fail;refine HS.out.mono ?_;rintro e w4 ⟨rfl,D3,A3,F3⟩;have HF4:=q9 (HF.out.trans F3);clear HF F3;by_cases hk:k<4
  ·have g3:decide (((runC k y0 s0).1.go (runC k y0 s0).2).1.ln=5)=false:=by simp;exact go4 (k+1) A0e
   go_wp2_with fail;go_roundw;case rel=>exact ⟨k+1,by simp,by omega,D3,A3,HF4.out⟩
   case measure=>simp [intOf];omega
  ·obtain rfl:k=4:=by omega
   have g3:decide (((runC 4 y0 s0).1.go (runC 4 y0 s0).2).1.ln=5)=true:=by simp;exact go5.1
   have D4:KcIs w4 b (runC 5 y0 s0).1:=D3;have A4:Ar w4 p q (runC 5 y0 s0).2:=A3;have HA:=q9 A4;have HV:=q9 (Vf (o:=0) D4 rfl);rw [go5.2.1,go5.2.2] at HV;clear D3 A3 HS D4 A4;go_wp2_with fail;refine HV.out.mono ?_;rintro e w5 ⟨rfl,F5⟩;rw [show Pl.qch 0 = .nilIface from rfl];have FF:=HF4.out.then F5;have A5:=HA.out.kept F5 A0g A0g;have o5:=HO.out.kept FF (by simp;exact HN.out.2.2.1);have t5:=Gq_u.tab_kept HT.out FF A0l;have HG5:=q9 (HG.out.own FF (by simp;exact ⟨HN.out.2.2.2.1,HN.out.2.2.2.2.1,HN.out.2.2.2.2.2.1⟩));obtain ⟨c0,c1,c2,c3⟩:=Pl.yn o5;have z5:=o5.frozen;have HO5:=q9 o5;have HA5:=q9 (qc A5 t5);clear FF HF4 F5 HV HA A5 t5 o5;go_wp2_with fail;have o6:Ob (w5.setCell ⟨bc,3,none⟩ (.int .i64 1)) bc 23 #[.int .i64 2,.int .i64 4,.int .i64 100,.int .i64 1]:=Ob.set HO5.out (i:=3) (.int .i64 1);have F6:Fr [bc] w5 (w5.setCell ⟨bc,3,none⟩ (.int .i64 1)):=Fr.setCell (S:=[bc]) (b:=bc) _ A0g;generalize (w5.setCell ⟨bc,3,none⟩ (.int .i64 1))=w6 at *;have A6:=HA5.out.1.kept F6 (by simp;exact HN.out.2.2.1.2.1.symm) (by simp;exact HN.out.2.2.1.2.2.symm);have t6:=Gq_u.tab_kept HA5.out.2 F6 (by simp;exact HN.out.2.1.2.2.2);have HG6:=q9 (HG5.out.own F6 (by simp;exact HN.out.2.2.2.2.2.2));clear c0 c1 c2 c3 z5 HO5 HG5 HA5 F6;obtain ⟨c0,c1,c2,c3⟩:=Pl.yn o6;have hA6:=A6.lt;have hT6:=tabLt t6;clear o6;go_wp2_with fail;refine (new2 _).mono ?_;rintro e w7 ⟨b2,rfl,hb2,D7,F7⟩;have A7:=A6.kept F7 A0g A0g;have t7:=Gq_u.tab_up t6 F7;have HN2:=q9 (show (b2≠p∧b2≠q) by omega);have hb3:w.heap.size≤b2:=qh HG6.out.size hb2;have HG7:=q9 (qc (HG6.out.trans F7) hb3);have HS:=q9 (kstep_any (y:=y1) A0q t7 D7 A7 HN2.out ⟨HN.out.2.1.1,HN.out.2.1.2.1⟩);rw [show decide ((y1.go (runC 5 y0 s0).2).1.ln=5)=true from decide_eq_true one.1] at HS;clear c0 c1 c2 c3 hA6 hT6 A6 t6 HG6 F7 D7 A7 t7 hb2 hb3;go_wp2_with fail;refine HS.out.mono ?_;rintro e w8 ⟨rfl,D8,A8,F8⟩;have HV:=q9 (Vf (o:=0) D8 rfl);rw [one.2.1,one.2.2] at HV;have HA8:=q9 (qc A8 F8);clear D8 A8 F8 HS;go_wp2_with fail;refine HV.out.mono ?_;rintro e w9 ⟨rfl,F9⟩;rw [show Pl.qch 15 = .iface 112 (.int .i64 15) from rfl];have HA9:=q9 (HA8.out.1.kept F9 A0g A0g);have HF9:=q9 (HG7.out.1.own (HA8.out.2.then F9) (by have:=HG7.out.2;have:=HN.out.2.2.2;simp;omega));clear F9 HA8 HV;go_wp2_with fail;refine (yd _ p q _ _ HA9.out).mono ?_;rintro e _ ⟨rfl,rfl⟩;rw [pk5.1];go_wp2_with fail;refine (Pl.wm 1 A0q A0q _).mono ?_;rintro e _ ⟨rfl,rfl⟩;rw [show (3+1:Int)=4 by decide];go_wp2_with fail;refine (yd _ p q _ _ HA9.out).mono ?_;rintro e _ ⟨rfl,rfl⟩;rw [pk5.2];go_wp2_with fail;refine (Er.is_same 15 _).mono ?_;rintro e w10 ⟨rfl,rfl⟩;go_wp2;go_ret;exact ⟨rfl,HF9.out⟩
end Go.Proofs.YtnaahjlpldnjjaaGreatDoor.Kc_u
namespace Go.Proofs.YtnaahjlpldnjjaaGreatDoor.Kc_u
open Go.RowKit Go.Proofs.YtnaahjlpldnjjaaGreatDoor.Ar Go.Proofs.YtnaahjlpldnjjaaGreatDoor.Mx
set_option linter.unusedVariables false
set_option linter.unusedSimpArgs false
theorem peekD (l:List Int) (q:Int):qw l q=if 0≤q∧q<(l.length:Int) then l.getD q.toNat 0 else 0:=by unfold qw J8 nth;simp only [Bool.and_eq_true,decide_eq_true_eq]
theorem peekP (l:List Int) (p v q:Int):qw (yl l p v) q=if q=p∧0≤p∧p<(l.length:Int) then v else qw l q:=by
 by_cases hp:0≤p∧p<(l.length:Int)
 ·obtain ⟨k,rfl⟩:=Int.eq_ofNat_of_zero_le hp.1;have hk:k<l.length:=by omega
  have e:yl l (k:Int) v=l.set k v:=by unfold yl J8;simp [hk]
  rw [e,peekD,peekD l,List.length_set];by_cases hq:0≤q∧q<(l.length:Int)
  ·rw [qf hq,qf hq];by_cases h:q=(k:Int)
   ·subst h;rw [qf ⟨rfl,hp⟩,Int.toNat_natCast,List.getD_eq_getElem?_getD,List.getElem?_set_self hk];rfl
   ·rw [qd (fun e=>h e.1),List.getD_eq_getElem?_getD,List.getElem?_set_ne A0e,List.getD_eq_getElem?_getD]
  ·rw [qd hq,qd hq,qd (fun e=>hq (by rw [e.1];exact e.2))]
 ·have e:yl l p v=l:=by unfold yl J8;rw [qd (by simpa using hp)]
  rw [e,qd (fun h=>hp h.2)]
theorem pokeL (l:List Int) (p v:Int):(yl l p v).length=l.length:=by unfold yl;split <;> simp
theorem part_claim (sq v:Int) (h0:0≤v) (h1:v≤16777212):ku (Q0 sq v)=v:=by unfold ku Q0 hd;omega
theorem g0 (vs ps sq a1 a2 a3 a4 a0:Int) (s:St) (h:qw s.l 1<vs):(⟨vs,ps,sq,0,a0,a1,a2,a3,a4⟩:Cm).go s=(⟨vs,ps,sq,1,qw s.l 1,a1,a2,a3,a4⟩,s.load 1):=Ps
theorem g0e (vs ps sq a1 a2 a3 a4 a0:Int) (s:St) (h:vs≤qw s.l 1):(⟨vs,ps,sq,0,a0,a1,a2,a3,a4⟩:Cm).go s=(⟨vs,ps,sq,5,qw s.l 1,a1,a2,a3,a4⟩,s.load 1):=by simp only [Cm.go,Cm.step,Cm.act,Cm.told,Cm.put,Cm.behL];simp [h]
theorem g1 (vs ps sq a1 a2 a3 a4 a0:Int) (s:St) (h:a0<vs):(⟨vs,ps,sq,1,a0,a1,a2,a3,a4⟩:Cm).go s=(⟨vs,ps,sq,2,a0,0,a2,a3,a4⟩,s.store ps (Q0 sq 1)):=Ps
theorem g2 (vs ps sq a1 a2 a3 a4 a0:Int) (s:St) (h:a0<vs):(⟨vs,ps,sq,2,a0,a1,a2,a3,a4⟩:Cm).go s=(⟨vs,ps,sq,3,a0,a1,qw s.l 1,a3,a4⟩,s.add 1 1):=Ps
theorem g3 (vs ps sq a1 a2 a3 a4 a0:Int) (s:St) (h:a0<vs):(⟨vs,ps,sq,3,a0,a1,a2,a3,a4⟩:Cm).go s=(⟨vs,ps,sq,4,a0,a1,a2,0,a4⟩,s.swap ps (Q0 sq 1) (Q0 sq (wrap64 (a2+2)))):=Ps
theorem g4 (vs ps sq a1 a2 a3 a4 a0:Int) (s:St) (h:a0<vs):(⟨vs,ps,sq,4,a0,a1,a2,a3,a4⟩:Cm).go s=(⟨vs,ps,sq,5,a0,a1,a2,a3,qw s.l ps⟩,s.load ps):=Ps
def y00 (vs ps sq:Int):Cm:=⟨vs,ps,sq,0,0,0,0,0,0⟩
end Go.Proofs.YtnaahjlpldnjjaaGreatDoor.Kc_u
namespace Go.Proofs.YtnaahjlpldnjjaaGreatDoor.Kc_u
open Go.RowKit Go.Proofs.YtnaahjlpldnjjaaGreatDoor.Ar Go.Proofs.YtnaahjlpldnjjaaGreatDoor.Mx
set_option linter.unusedVariables false
set_option linter.unusedSimpArgs false
def C5 (p:Int):Int:=Q0 500 p
theorem C5_part {v:Int} (h0:0≤v) (h1:v≤16777212):ku (C5 v)=v:=part_claim 500 v h0 h1
theorem C5_inj {v u:Int} (h0:0≤v∧v≤16777212) (h1:0≤u∧u≤16777212) (h:C5 v=C5 u):v=u:=by have:=congrArg ku h;rwa [C5_part h0.1 h0.2,C5_part h1.1 h1.2] at this
structure HpI (vs P W:Int) (i:Nat) (y:Cm) (s:St) (met:Int):Prop where
 hvs:y.vs=vs
 hps:y.ps=P
 hsq:y.sq=500
 hln:y.ln=i
 i4:i≤4
 f0:1≤i→y.f0=W∧W<vs
 z:i=0→met = -1∧qw s.l 1=W∧q55 (qw s.l P)≠500
 one:i=1→met = -1∧qw s.l 1=W
 two:i=2→(met = -1∧qw s.l 1=W∧qw s.l P=C5 1)∨(met=W∧qw s.l 1=W+1∧qw s.l P=C5 (W+2))
 three:i=3→(met = -1∧y.f2=W∧qw s.l 1=W+1∧qw s.l P=C5 1)∨(∃ V,met=V∧W≤V∧V≤W+1∧V<qw s.l 1∧qw s.l P=C5 (V+2))
 four:i=4→∃ V,W≤V∧V≤W+1∧V<qw s.l 1∧qw s.l P=C5 (V+2)∧(met = -1∨met=V)
def helps (P a5:Int) (i:Nat) (s:St):Prop:=(i:Int)=a5∧ku (qw s.l P)=1∧q55 (qw s.l P)=500
def helped (P:Int) (s:St):St:=(s.yl 1 (qw s.l 1+1)).yl P (C5 (qw s.l 1+2))
section
variable {vs P W:Int}
theorem HpI.new {s:St} (h1:qw s.l 1=W) (h2:q55 (qw s.l P)≠500):HpI vs P W 0 (y00 vs P 500) s (-1) :=
 ⟨rfl,rfl,rfl,rfl,by omega,fun k=>by omega,fun _=>⟨rfl,h1,h2⟩,fun k=>by omega,fun k=>by omega,fun k=>by omega,fun k=>by omega⟩
theorem helped_at {s:St} (hp:1<P∧P<(s.l.length:Int)):qw (helped P s).l 1=qw s.l 1+1∧qw (helped P s).l P=C5 (qw s.l 1+2)∧(helped P s).l.length=s.l.length:=by
 have e:(helped P s).l=yl (yl s.l 1 (qw s.l 1+1)) P (C5 (qw s.l 1+2)):=rfl;rw [e];refine ⟨?_,?_,by rw [pokeL,pokeL]⟩
 ·rw [peekP,qd A0e,peekP,qf ⟨rfl,by omega,by omega⟩]
 ·rw [peekP,qf ⟨rfl,by omega,by rw [pokeL];omega⟩]
theorem HpI.stop {i:Nat} {y:Cm} {s:St} {met:Int} (h:HpI vs P W i y s met) (hv:vs≤W):i=0∧(y.go s).1.ln=5∧(y.go s).1.err=15:=by
 have hi:i=0:=by
  by_cases k:1≤i
  ·have:=(h.f0 k).2;omega
  ·omega
 subst hi;obtain ⟨z1,z2,z3⟩:=h.z rfl;obtain ⟨yv,yp_u,yq,yl_u,a0,a1,a2,a3,a4⟩:=y;obtain ⟨rfl,rfl,rfl,hl⟩:yv=vs∧yp_u=P∧yq=500∧yl_u=0:=⟨h.hvs,h.hps,h.hsq,h.hln⟩;subst hl;rw [g0e _ _ _ _ _ _ _ _ s A0e];refine ⟨rfl,rfl,?_⟩;unfold Cm.err;simp only;rw [qf trivial,qf A0e]
theorem HpI.step (hW:0≤W∧W≤1048576) {i:Nat} {y:Cm} {s:St} {met:Int} (h:HpI vs P W i y s met) (hv:W<vs) (hi:i≤3) (hp:1<P∧P<(s.l.length:Int)) (a5:Int) :
  (y.go s).1.ln≠5∧((y.go s).2.l.length=s.l.length)∧(¬ helps P a5 i (y.go s).2→HpI vs P W (i+1) (y.go s).1 (y.go s).2 met)∧(helps P a5 i (y.go s).2→HpI vs P W (i+1) (y.go s).1 (helped P (y.go s).2) (qw (y.go s).2.l 1)):=by
 obtain ⟨yv,yp_u,yq,yl_u,a0,a1,a2,a3,a4⟩:=y;obtain ⟨rfl,rfl,rfl,hl⟩:yv=vs∧yp_u=P∧yq=500∧yl_u=i:=⟨h.hvs,h.hps,h.hsq,h.hln⟩;subst hl;rcases (by omega:i=0∨i=1∨i=2∨i=3) with rfl | rfl | rfl | rfl
 ·obtain ⟨z1,z2,z3⟩:=h.z rfl;have e:=g0 yv yp_u 500 a1 a2 a3 a4 a0 s A0e;rw [show ((0:Nat):Int)=0 from rfl,e];refine ⟨by simp,rfl,fun _=>⟨rfl,rfl,rfl,rfl,by omega,fun _=>⟨z2,hv⟩,fun k=>by omega,fun _=>⟨z1,z2⟩,fun k=>by omega,fun k=>by omega,fun k=>by omega⟩,fun k=>absurd k.2.2 z3⟩
 ·obtain ⟨z1,z2⟩:=h.one rfl;obtain ⟨f1,f2⟩:=h.f0 A0e;simp only at f1;have e:=g1 yv yp_u 500 a1 a2 a3 a4 a0 s A0e;rw [show ((1:Nat):Int)=1 from rfl,e];have k1:qw (s.store yp_u (Q0 500 1)).l 1=W:=by show qw (yl s.l yp_u _) 1=W;rw [peekP,qd A0e];exact z2
  have k2:qw (s.store yp_u (Q0 500 1)).l yp_u=C5 1:=by show qw (yl s.l yp_u _) yp_u=_;rw [peekP,qf ⟨rfl,by omega,by omega⟩];rfl
  have k3:(s.store yp_u (Q0 500 1)).l.length=s.l.length:=pokeL _ _ _;refine ⟨by simp,k3,fun _=>⟨rfl,rfl,rfl,rfl,by omega,fun _=>⟨f1,hv⟩,fun k=>by omega,fun k=>by omega,fun _=>.inl ⟨z1,k1,k2⟩,fun k=>by omega,fun k=>by omega⟩,fun _=>?_⟩;obtain ⟨q1,q2,q3⟩:=helped_at (s:=s.store yp_u (Q0 500 1)) (P:=yp_u) (by rw [k3];exact hp);rw [k1] at q1 q2;refine ⟨rfl,rfl,rfl,rfl,by omega,fun _=>⟨f1,hv⟩,fun k=>by omega,fun k=>by omega,fun _=>.inr ⟨k1,q1,q2⟩,fun k=>by omega,fun k=>by omega⟩
 ·have z:=h.two rfl;obtain ⟨f1,f2⟩:=h.f0 A0e;simp only at f1;have e:=g2 yv yp_u 500 a1 a2 a3 a4 a0 s A0e;rw [show ((2:Nat):Int)=2 from rfl,e];have hb:0≤qw s.l 1∧qw s.l 1≤1048577:=by rcases z with ⟨_,z,_⟩ | ⟨_,z,_⟩ <;> omega
  have k1:qw (s.add 1 1).l 1=qw s.l 1+1:=by show qw (yl s.l 1 (wrap64 (qw s.l 1+1))) 1=_;rw [peekP,qf ⟨rfl,by omega,by omega⟩,w64 A0e A0e]
  have k2:qw (s.add 1 1).l yp_u=qw s.l yp_u:=by show qw (yl s.l 1 _) yp_u=_;rw [peekP,qd A0e]
  have k3:(s.add 1 1).l.length=s.l.length:=pokeL _ _ _;refine ⟨by simp,k3,fun hn=>⟨rfl,rfl,rfl,rfl,by omega,fun _=>⟨f1,hv⟩,fun k=>by omega,fun k=>by omega,fun k=>by omega,fun _=>?_,fun k=>by omega⟩,fun hy=>?_⟩
  ·rw [k1,k2];rcases z with ⟨z1,z2,z3⟩ | ⟨z1,z2,z3⟩
   ·exact .inl ⟨z1,z2,by omega,z3⟩
   ·exact .inr ⟨W,z1,by omega,by omega,by omega,z3⟩
  ·obtain ⟨q1,q2,q3⟩:=helped_at (s:=s.add 1 1) (P:=yp_u) (by rw [k3];exact hp);have hy2:=hy.2.1;rw [k2] at hy2;rcases z with ⟨z1,z2,z3⟩ | ⟨z1,z2,z3⟩
   ·rw [k1,z2] at q1 q2;refine ⟨rfl,rfl,rfl,rfl,by omega,fun _=>⟨f1,hv⟩,fun k=>by omega,fun k=>by omega,fun k=>by omega,fun _=>.inr ⟨W+1,by show qw (s.add 1 1).l 1=W+1;rw [k1,z2],by omega,by omega,by show W+1<qw (helped yp_u (s.add 1 1)).l 1;omega,q2⟩,fun k=>by omega⟩
   ·rw [z3,C5_part A0e A0e] at hy2;omega
 ·have z:=h.three rfl;obtain ⟨f1,f2⟩:=h.f0 A0e;simp only at f1 z;have e:=g3 yv yp_u 500 a1 a2 a3 a4 a0 s A0e;rw [show ((3:Nat):Int)=3 from rfl,e]
  have hc:s.can yp_u (Q0 500 1)=decide (qw s.l yp_u=C5 1):=by
   unfold St.can J8;have i1:decide (0≤yp_u)=true:=by simp;omega
   have i2:decide (yp_u<(s.l.length:Int))=true:=by simp;omega
   rw [i1,i2];show (qw s.l yp_u == C5 1)=_;by_cases q:qw s.l yp_u=C5 1
   ·rw [q];simp
   ·simp [q]
  have swl:∀ v,(s.swap yp_u (Q0 500 1) v).l=if qw s.l yp_u=C5 1 then yl s.l yp_u v else s.l:=fun v=>by
   unfold St.swap;rw [hc];by_cases q:qw s.l yp_u=C5 1
   ·rw [qf (by simpa using q),qf q];rfl
   ·rw [qd (by simpa using q),qd q];rfl
  have k3:(s.swap yp_u (Q0 500 1) (Q0 500 (wrap64 (a2+2)))).l.length=s.l.length:=by
   rw [swl];split
   ·exact pokeL _ _ _
   ·rfl
  have F:∃ V,W≤V∧V≤W+1∧V<qw (s.swap yp_u (Q0 500 1) (Q0 500 (wrap64 (a2+2)))).l 1∧qw (s.swap yp_u (Q0 500 1) (Q0 500 (wrap64 (a2+2)))).l yp_u=C5 (V+2)∧(met = -1∨met=V):=by
   rw [swl];rcases z with ⟨z1,z2,z3,z4⟩ | ⟨V,z1,z2,z3,z4,z5⟩
   ·rw [qf z4];refine ⟨W,by omega,by omega,?_,?_,.inl z1⟩
    ·rw [peekP,qd A0e];omega
    ·rw [peekP,qf ⟨rfl,by omega,by omega⟩,z2,w64 A0e A0e];rfl
   ·rw [qd (fun q=>by rw [z5] at q;have:=C5_inj A0e A0e q;omega)];exact ⟨V,z2,z3,z4,z5,.inr z1⟩
  refine ⟨by simp,k3,fun _=>⟨rfl,rfl,rfl,rfl,by omega,fun _=>⟨f1,hv⟩,fun k=>by omega,fun k=>by omega,fun k=>by omega,fun k=>by omega,fun _=>F⟩,fun hy=>?_⟩;obtain ⟨V,v1,v2,v3,v4,v5⟩:=F;have:=hy.2.1;rw [v4,C5_part A0e A0e] at this;omega
theorem HpI.last (hW:0≤W∧W≤1048576) {y:Cm} {s:St} {met:Int} (h:HpI vs P W 4 y s met):(y.go s).1.ln=5∧(y.go s).2.l=s.l∧(y.go s).1.err=0∧∃ V,(y.go s).1.ver=V∧0≤V∧V≤1048577∧W≤V∧V<qw s.l 1∧qw s.l P=C5 (V+2)∧(met<0∨V=met):=by
 obtain ⟨V,v1,v2,v3,v4,v5⟩:=h.four rfl;obtain ⟨f1,f2⟩:=h.f0 A0e;obtain ⟨yv,yp_u,yq,yl_u,a0,a1,a2,a3,a4⟩:=y;obtain ⟨rfl,rfl,rfl,hl⟩:yv=vs∧yp_u=P∧yq=500∧yl_u=4:=⟨h.hvs,h.hps,h.hsq,h.hln⟩;subst hl;simp only at f1;rw [g4 yv yp_u 500 a1 a2 a3 a4 a0 s A0e];refine ⟨rfl,rfl,?_,V,?_,by omega,by omega,v1,v3,v4,by omega⟩
 ·unfold Cm.err;simp only;rw [qf trivial,qd A0e]
 ·unfold Cm.ver;simp only;rw [qf trivial,qd A0e,v4,C5_part A0e A0e];omega
end
end Go.Proofs.YtnaahjlpldnjjaaGreatDoor.Kc_u
