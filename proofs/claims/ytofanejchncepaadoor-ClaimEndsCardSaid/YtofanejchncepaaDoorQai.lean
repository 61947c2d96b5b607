/- Texts that this proof leans on, one behind the other: Kc1, Kc2, Kc3, Kc4, Laws13. -/
import Derived.Test.YtofanejchncepaaDoorQaa
import Derived.Test.YtofanejchncepaaDoorQab
import Derived.Test.YtofanejchncepaaDoorQac
import Derived.Test.YtofanejchncepaaDoorQae
import Derived.Test.YtofanejchncepaaDoorQag
import Derived.Test.YtofanejchncepaaDoorQah
import Derived.Deep.RegionHeld3
import Derived.RegionTactic
set_option linter.unusedVariables false
set_option linter.unusedSimpArgs false
set_option maxRecDepth 100000
set_option maxHeartbeats 12800000
namespace Go.Proofs.YtofanejchncepaaDoor.Kc
open Go.RowKit Go.Proofs.YtofanejchncepaaDoor.Ar Go.Proofs.YtofanejchncepaaDoor.Mx
theorem heldI_hd (n:Int) {a b:Int} (h:a≤b):Word.heldI a b n=hd n a b:=by unfold Word.heldI hd;split <;> split <;> omega
theorem claimI_eq (s p:Int):Word.claimI s p=claimW s p:=by unfold Word.claimI claimW;rw [heldI_hd _ Bp,heldI_hd _ Bp]
theorem claim9 (s p:Int) (w:World) (t:Word.Tab w):Calls Tryd.prog 65 #[.int .i64 s,.int .i64 p] w fun e w'=>e = .returned (.int .i64 (claimW s p))∧Fr [] w w' :=
 (Word.claim_any s p w t).mono fun e w' ⟨h,d⟩=>⟨by rw [h,claimI_eq],Gp.fr_dr d⟩
structure Cm where
 vs:Int
 ps:Int
 sq:Int
 ln:Int
 f0:Int
 f1:Int
 f2:Int
 f3:Int
 f4:Int
def Cm.cells (y:Cm):Array Value:=#[.int .i64 y.vs,.int .i64 y.ps,.int .i64 y.sq,.int .i64 y.ln,.int .i64 y.f0,.int .i64 y.f1,.int .i64 y.f2,.int .i64 y.f3,.int .i64 y.f4]
def CmAt (w:World) (b:Nat) (T:TypeId) (pre post:Array Value) (y:Cm):Prop:=Pb w b T pre post y.cells
def Cm.act (y:Cm) (s:St):St:=if y.ln=0 then s.load 1 else if y.ln=1 then s.store y.ps (claimW y.sq 1) else if y.ln=2 then s.add 1 1 else if y.ln=3 then s.swap y.ps (claimW y.sq 1) (claimW y.sq (wrap64 (y.f2+2))) else s.load y.ps
def Cm.told (y:Cm) (s:St):Int:=if y.ln=0 then peek s.l 1 else if y.ln=1 then 0 else if y.ln=2 then peek s.l 1 else if y.ln=3 then 0 else peek s.l y.ps
def Cm.put (y:Cm) (v:Int):Cm:=if y.ln=0 then { y with f0:=v } else if y.ln=1 then { y with f1:=v } else if y.ln=2 then { y with f2:=v } else if y.ln=3 then { y with f3:=v } else { y with f4:=v }
def Cm.behL (y:Cm):Int:=if y.vs≤y.f0 then 5 else wrap64 (y.ln+1)
def Cm.step (y:Cm) (s:St):Cm:={ y.put (y.told s) with ln:=(y.put (y.told s)).behL }
section
variable {w:World} {b o p q:Nat} {T:TypeId} {pre post:Array Value} {y:Cm} {s:St}
theorem cm_cells (h:CmAt w b T pre post y) (ho:pre.size=o):w.cell? ⟨b,o,none⟩=some (.int .i64 y.vs)∧w.cell? ⟨b,o+1,none⟩=some (.int .i64 y.ps)∧w.cell? ⟨b,o+2,none⟩=some (.int .i64 y.sq)∧w.cell? ⟨b,o+3,none⟩=some (.int .i64 y.ln)∧w.cell? ⟨b,o+4,none⟩=some (.int .i64 y.f0)∧w.cell? ⟨b,o+4+1,none⟩=some (.int .i64 y.f1)∧w.cell? ⟨b,o+4+2,none⟩=some (.int .i64 y.f2)∧w.cell? ⟨b,o+4+3,none⟩=some (.int .i64 y.f3)∧w.cell? ⟨b,o+4+4,none⟩=some (.int .i64 y.f4) :=
 ⟨h.cell (i:=0) ho rfl,h.cell (i:=1) ho rfl,h.cell (i:=2) ho rfl,h.cell (i:=3) ho rfl,h.cell (i:=4) ho rfl,h.cell (i:=5) ho rfl,h.cell (i:=6) ho rfl,h.cell (i:=7) ho rfl,h.cell (i:=8) ho rfl⟩
theorem none_any (h:CmAt w b T pre post y) (ho:pre.size=o):Calls Tryd.prog 32 #[.pointer (some ⟨b,o,none⟩)] w fun e w'=>e = .returned (.bool (decide (y.vs≤y.f0)))∧Fr [] w w':=by
 obtain ⟨c0,-,-,-,c4,-⟩:=cm_cells h ho;have k0:=In.cell c0;have k4:=In.cell c4;clear c0 c4 h;go_enter Tryd.func32,Tryd.ntmps32;go_wp2_with fail;refine wiq ?_;repeat (go_big_quiet_step (fail))
 refine wpQuiet_nil ?_;intro w2 F2;exact Bb
theorem beh_any (h:CmAt w b T pre post y) (ho:pre.size=o):Calls Tryd.prog 31 #[.pointer (some ⟨b,o,none⟩)] w fun e w'=>e = .returned (.int .i64 y.behL)∧Fr [] w w':=by
 have HN:=Lib.hid (none_any h ho);have HH:=Lib.hid (And.intro h ho);unfold Cm.behL;by_cases e:y.vs≤y.f0
 ·rw [if_pos e];have g:decide (y.vs≤y.f0)=true:=by simpa using e
  rw [g] at HN;clear h e g ho;go_enter Tryd.func31,Tryd.ntmps31;exact Av
 ·rw [if_neg e];have g:decide (y.vs≤y.f0)=false:=by simpa using e
  rw [g] at HN;clear h e g ho;go_enter Tryd.func31,Tryd.ntmps31;go_wp2_with fail;refine HN.out.mono ?_;rintro e w2 ⟨rfl,F2⟩;obtain ⟨c0,c1,c2,c3,-⟩:=cm_cells (Pb.up HH.out.1 F2) HH.out.2;exact Bb
theorem clm_any (v:Int) (t:Word.Tab w) (h:CmAt w b T pre post y) (ho:pre.size=o):Calls Tryd.prog 52 #[.pointer (some ⟨b,o,none⟩),.int .i64 v] w fun e w'=>e = .returned (.int .i64 (claimW y.sq v))∧Fr [] w w':=by obtain ⟨c0,c1,c2,-⟩:=cm_cells h ho;have HN:=Lib.hid (claim9 y.sq v w t);clear h c0 c1 t;go_enter Tryd.func52,Tryd.ntmps52;exact Av
theorem acc0 (hl:y.ln=0) (t:Word.Tab w) (h:CmAt w b T pre post y) (ho:pre.size=o) (hA:Ar w p q s):Calls Tryd.prog 30 #[.pointer (some ⟨b,o,none⟩),.pointer (some ⟨p,0,none⟩)] w fun e w'=>e = .returned (.int .i64 (y.told s))∧Ar w' p q (y.act s)∧Fr [p,q] w w':=by
 have et:y.told s=peek s.l 1:=by unfold Cm.told;simp [hl]
 have ea:y.act s=s.load 1:=by unfold Cm.act;simp [hl]
 rw [et,ea];obtain ⟨c0,c1,c2,c3,c4,c5,c6,c7,c8⟩:=cm_cells h ho;rw [hl] at c3;clear et ea hl;clear h t c0 c1 c2 c4 c5 c6 c7 c8;exact Aj
theorem acc1 (hl:y.ln=1) (t:Word.Tab w) (h:CmAt w b T pre post y) (ho:pre.size=o) (hA:Ar w p q s) (hne:b≠p∧b≠q) (hg:1≠p∧1≠q):Calls Tryd.prog 30 #[.pointer (some ⟨b,o,none⟩),.pointer (some ⟨p,0,none⟩)] w fun e w'=>e = .returned (.int .i64 (y.told s))∧Ar w' p q (y.act s)∧Fr [p,q] w w':=by
 have et:y.told s=0:=by unfold Cm.told;simp [hl]
 have ea:y.act s=s.store y.ps (claimW y.sq 1):=by unfold Cm.act;simp [hl]
 rw [et,ea];obtain ⟨c0,c1,c2,c3,c4,c5,c6,c7,c8⟩:=cm_cells h ho;rw [hl] at c3;clear et ea hl;go_enter Tryd.func30,Tryd.ntmps30;go_wp2_with fail;refine wp_region_free Bm ?_;refine any_envL [p,q] w #[true,true,true,true,true,true,true,false] 7 1 rfl ?_;refine envT_pass [true,true,true,true,true,true,true,false] 0 (n:=51) (listed':=#[true,true,true,true,true,true,true,false]) rfl Bm Bm Bm Bm Bm rfl Bm (fun _ _ d _ _ h=>by cases d <;> exact h) ((Fr.refl _ w).drew) ?_;apply Exists.intro;refine ⟨fun wf Ff=>?_,?_⟩
 ·have tf:=Gp.tab_kept t Ff (by simpa using hg);have hf:CmAt wf b T pre post y:=Pb.kept h Ff C0;have k1:=In.cell (Ff.cell c1 C0);simp only [sel];repeat (go_big_quiet_step ((go_at_call_of 52 (Value.int IntKind.i64 1);exact Calls.in_ (clm_any 1 (Gp.tab_up tf (In.fr _)) (Pb.up hf (In.fr _)) ho))))
  exact wpQuiet_nil rfl
 refine envL_tail (k:=7) rfl Bm (fun w5 F5=>?_);have D5:=(Fr.refl [] w).drew.trans F5;have A5:=hA.kept D5;clear c0 c1 c2 c3 c4 c5 c6 c7 c8;go_wp2_with fail;refine (Ar.store_any _ p q s _ _ A5).mono ?_;rintro e w6 ⟨rfl,A6,F6⟩;exact Be
theorem acc2 (hl:y.ln=2) (t:Word.Tab w) (h:CmAt w b T pre post y) (ho:pre.size=o) (hA:Ar w p q s):Calls Tryd.prog 30 #[.pointer (some ⟨b,o,none⟩),.pointer (some ⟨p,0,none⟩)] w fun e w'=>e = .returned (.int .i64 (y.told s))∧Ar w' p q (y.act s)∧Fr [p,q] w w':=by
 have et:y.told s=peek s.l 1:=by unfold Cm.told;simp [hl]
 have ea:y.act s=s.add 1 1:=by unfold Cm.act;simp [hl]
 rw [et,ea];obtain ⟨c0,c1,c2,c3,c4,c5,c6,c7,c8⟩:=cm_cells h ho;rw [hl] at c3;clear et ea hl;clear h t c0 c1 c2 c4 c5 c6 c7 c8;go_enter Tryd.func30,Tryd.ntmps30;go_wp2_with fail;refine (Ar.add_any _ p q s _ _ hA).mono ?_;rintro e w4 ⟨rfl,A4,F4⟩;go_wp2;go_ret;exact ⟨rfl,A4,F4⟩
theorem acc3 (hl:y.ln=3) (t:Word.Tab w) (h:CmAt w b T pre post y) (ho:pre.size=o) (hA:Ar w p q s) (hne:b≠p∧b≠q) (hg:1≠p∧1≠q):Calls Tryd.prog 30 #[.pointer (some ⟨b,o,none⟩),.pointer (some ⟨p,0,none⟩)] w fun e w'=>e = .returned (.int .i64 (y.told s))∧Ar w' p q (y.act s)∧Fr [p,q] w w':=by
 have et:y.told s=0:=by unfold Cm.told;simp [hl]
 have ea:y.act s=s.swap y.ps (claimW y.sq 1) (claimW y.sq (wrap64 (y.f2+2))):=by unfold Cm.act;simp [hl]
 rw [et,ea];obtain ⟨c0,c1,c2,c3,c4,c5,c6,c7,c8⟩:=cm_cells h ho;rw [hl] at c3;clear et ea hl;go_enter Tryd.func30,Tryd.ntmps30;go_wp2_with fail;refine wp_region_free Bm ?_;refine any_envL [p,q] w #[true,true,true,true,true,true,true,true,true,true,true,true,true,true,true,false] 15 1 rfl ?_;refine envT_pass [true,true,true,true,true,true,true,true,true,true,true,true,true,true,true,false] 0 (n:=51) (listed':=#[true,true,true,true,true,true,true,true,true,true,true,true,true,true,true,false]) rfl Bm Bm Bm Bm Bm rfl Bm (fun _ _ d _ _ h=>by cases d <;> exact h) ((Fr.refl _ w).drew) ?_;apply Exists.intro;refine ⟨fun wf Ff=>?_,?_⟩
 ·have tf:=Gp.tab_kept t Ff (by simpa using hg);have hf:CmAt wf b T pre post y:=Pb.kept h Ff C0;have k1:=In.cell (Ff.cell c1 C0);have k6:=In.cell (Ff.cell c6 C0);simp only [sel];repeat (go_big_quiet_step ((first | (go_at_call_of 52 (Value.int IntKind.i64 1);exact Calls.in_ (clm_any 1 (Gp.tab_up tf (In.fr _)) (Pb.up hf (In.fr _)) ho)) | (go_at_call 52;exact Calls.in_ (clm_any (wrap64 (y.f2+2)) (Gp.tab_up tf (In.fr _)) (Pb.up hf (In.fr _)) ho)))))
  exact wpQuiet_nil rfl
 refine envL_tail (k:=15) rfl Bm (fun w5 F5=>?_);have D5:=(Fr.refl [] w).drew.trans F5;have A5:=hA.kept D5;clear c0 c1 c2 c3 c4 c5 c6 c7 c8;go_wp2_with fail;refine (Ar.swap_any _ p q s _ _ _ A5).mono ?_;rintro e w6 ⟨rfl,A6,F6⟩;exact Be
theorem acc4 (hl:y.ln=4) (t:Word.Tab w) (h:CmAt w b T pre post y) (ho:pre.size=o) (hA:Ar w p q s):Calls Tryd.prog 30 #[.pointer (some ⟨b,o,none⟩),.pointer (some ⟨p,0,none⟩)] w fun e w'=>e = .returned (.int .i64 (y.told s))∧Ar w' p q (y.act s)∧Fr [p,q] w w':=by
 have et:y.told s=peek s.l y.ps:=by unfold Cm.told;simp [hl]
 have ea:y.act s=s.load y.ps:=by unfold Cm.act;simp [hl]
 rw [et,ea];obtain ⟨c0,c1,c2,c3,c4,c5,c6,c7,c8⟩:=cm_cells h ho;rw [hl] at c3;clear et ea hl;clear h t c0 c2 c4 c5 c6 c7 c8;exact Aj
theorem acc_any (hl:0≤y.ln∧y.ln≤4) (t:Word.Tab w) (h:CmAt w b T pre post y) (ho:pre.size=o) (hA:Ar w p q s) (hne:b≠p∧b≠q) (hg:1≠p∧1≠q):Calls Tryd.prog 30 #[.pointer (some ⟨b,o,none⟩),.pointer (some ⟨p,0,none⟩)] w fun e w'=>e = .returned (.int .i64 (y.told s))∧Ar w' p q (y.act s)∧Fr [p,q] w w':=by
 rcases (by omega:y.ln=0∨y.ln=1∨y.ln=2∨y.ln=3∨y.ln=4) with e | e | e | e | e
 ·exact acc0 e t h ho hA
 ·exact acc1 e t h ho hA hne hg
 ·exact acc2 e t h ho hA
 ·exact acc3 e t h ho hA hne hg
 ·exact acc4 e t h ho hA
def PostS (w:World) (b p q:Nat) (T:TypeId) (pre post:Array Value) (y:Cm) (s:St) (e:Ending) (w':World):Prop:=e = .returned (.bool (decide (y.ln=5)))∧CmAt w' b T pre post y∧Ar w' p q s∧Fr [b,p,q] w w'
theorem step0 (hl:y.ln=0) (t:Word.Tab w) (h:CmAt w b T pre post y) (ho:pre.size=o) (hA:Ar w p q s) (hne:b≠p∧b≠q) (hg:1≠p∧1≠q):Calls Tryd.prog 13 #[.pointer (some ⟨b,o,none⟩),.pointer (some ⟨p,0,none⟩)] w (PostS w b p q T pre post (y.step s) (y.act s)):=by
 obtain ⟨c0,c1,c2,c3,c4,c5,c6,c7,c8⟩:=cm_cells h ho;have HS:=Lib.hid (show ∀ wz,Fr [] w wz→Calls Tryd.prog 30 #[.pointer (some ⟨b,o,none⟩),.pointer (some ⟨p,0,none⟩)] wz fun e w'=>e = .returned (.int .i64 (y.told s))∧Ar w' p q (y.act s)∧Fr [p,q] wz w' from fun wz Fz=>acc_any Bn (Gp.tab_up t Fz) (Pb.up h Fz) ho (hA.kept Fz) hne hg);rw [hl] at c3;have q0:((0:Int) != 5)=true:=by decide
 have HL:=Lib.hid (And.intro hl ho);have HH:=Lib.hid h;have HNE:=Lib.hid hne;clear hl ho t hA hg hne h c0 c1 c2;unfold Cm.step;have hpt:y.put (y.told s) = { y with f0:=y.told s }:=by unfold Cm.put;simp [HL.out.1]
 rw [hpt];have HU:=Lib.hid hpt;clear hpt;generalize ht:y.told s=v at *;clear ht;go_enter Tryd.func13,Tryd.ntmps13;go_wp2_with fail;refine wp_region_free Bm ?_;refine take_move 0 rfl Bm Bm Bm rfl (fun _ _ d _ _ h=>by cases d <;> exact h) ?_;go_frame;simp only [Act.eval,Array.getD_eq_getD_getElem?,List.getElem?_toArray,List.getElem?_cons_zero,Option.getD_some];refine any_envL [p,q] w #[true,true,true,true,true,true,true,true,true,true,true,false] 10 1 rfl ?_;refine envT_pass [false,true,true,true,true,true,true,false,true,true,false,false] 2 (n:=31) (listed':=#[true,true,true,true,true,true,true,false,true,true,false,false]) rfl Bm Bm Bm Bm Bm rfl Bm (fun _ _ d _ _ h=>by cases d <;> exact h) ((Fr.refl _ w).drew) ?_;apply Exists.intro;refine ⟨fun wf Ff=>?_,?_⟩
 ·exact Bj
 refine loq 7 (fun w3 F3=>?_);have D3:=(Fr.refl [] w).drew.trans F3;clear F3 c3 c4 c5 c6 c7 c8;go_wp2_with fail;refine (HS.out _ D3).mono ?_;rintro e w4 ⟨rfl,A4,F4⟩;go_wp2_with fail;refine nx_normal ⟨(D3.mono).trans F4,?_⟩;refine loq 10 (fun w4' F4'=>?_);replace A4:=A4.kept F4' Bo Bo;replace F4:=F4.then F4';clear F4';go_wp2_with fail;refine nx_normal ⟨(D3.mono).trans F4,?_⟩;refine envL_tail (k:=11) rfl Bm (fun w5 F5=>?_);have A5:=A4.kept F5;have D4:Fr [p,q] w w5:=((D3.mono).trans F4).then F5;have h5:CmAt w5 b T pre post y:=Pb.kept HH.out D4 Bw;have D5:Fr [b,p,q] w w5:=D4.mono;clear A4 F4 F5 D3 D4;have HP:=Lib.hid (And.intro h5 (And.intro A5 D5));obtain ⟨c0,c1,c2,c3,c4,c5,c6,c7,c8⟩:=cm_cells h5 HL.out.2;have z5:=h5.frozen;clear h5 A5 D5;rw [HL.out.1] at c3;go_wp2_with fail;have h6:CmAt (w5.setCell ⟨b,o+4,none⟩ (.int .i64 v)) b T pre post { y with f0:=v }:=Pb.set HP.out.1 HL.out.2 (i:=4) (by show 4<9;omega) (.int .i64 v);have A6:Ar (w5.setCell ⟨b,o+4,none⟩ (.int .i64 v)) p q (y.act s):=HP.out.2.1.kept (Fr.setCell (S:=[b]) (b:=b) _ Bo) Bs Bt;have D6:=HP.out.2.2.setCell' (b:=b) (i:=o+4) (.int .i64 v) Bo;generalize (w5.setCell ⟨b,o+4,none⟩ (.int .i64 v))=w6 at *;clear c0 c1 c2 c3 c4 c5 c6 c7 c8 z5;refine (beh_any h6 HL.out.2).mono ?_;rintro e w7 ⟨rfl,F7⟩;have h7:CmAt w7 b T pre post { y with f0:=v }:=Pb.up h6 F7;have HR:=Lib.hid (And.intro h7 (And.intro (A6.kept F7) (D6.then F7)));have z7:=h7.frozen;obtain ⟨c0,c1,c2,c3,-⟩:=cm_cells h7 HL.out.2;clear h7 h6 A6 D6 F7 c0 c1 c2;generalize hlb:({ y with f0:=v }:Cm).behL=lb at *;exact Ab
theorem step1 (hl:y.ln=1) (t:Word.Tab w) (h:CmAt w b T pre post y) (ho:pre.size=o) (hA:Ar w p q s) (hne:b≠p∧b≠q) (hg:1≠p∧1≠q):Calls Tryd.prog 13 #[.pointer (some ⟨b,o,none⟩),.pointer (some ⟨p,0,none⟩)] w (PostS w b p q T pre post (y.step s) (y.act s)):=by
 obtain ⟨c0,c1,c2,c3,c4,c5,c6,c7,c8⟩:=cm_cells h ho;have HS:=Lib.hid (show ∀ wz,Fr [] w wz→Calls Tryd.prog 30 #[.pointer (some ⟨b,o,none⟩),.pointer (some ⟨p,0,none⟩)] wz fun e w'=>e = .returned (.int .i64 (y.told s))∧Ar w' p q (y.act s)∧Fr [p,q] wz w' from fun wz Fz=>acc_any Bn (Gp.tab_up t Fz) (Pb.up h Fz) ho (hA.kept Fz) hne hg);rw [hl] at c3;have q0:((1:Int) != 5)=true:=by decide
 have HL:=Lib.hid (And.intro hl ho);have HH:=Lib.hid h;have HNE:=Lib.hid hne;clear hl ho t hA hg hne h c0 c1 c2;unfold Cm.step;have hpt:y.put (y.told s) = { y with f1:=y.told s }:=by unfold Cm.put;simp [HL.out.1]
 rw [hpt];have HU:=Lib.hid hpt;clear hpt;generalize ht:y.told s=v at *;clear ht;go_enter Tryd.func13,Tryd.ntmps13;go_wp2_with fail;refine wp_region_free Bm ?_;refine take_move 0 rfl Bm Bm Bm rfl (fun _ _ d _ _ h=>by cases d <;> exact h) ?_;go_frame;simp only [Act.eval,Array.getD_eq_getD_getElem?,List.getElem?_toArray,List.getElem?_cons_zero,Option.getD_some];refine any_envL [p,q] w #[true,true,true,true,true,true,true,true,true,true,true,false] 10 1 rfl ?_;refine envT_pass [false,true,true,true,true,true,true,false,true,true,false,false] 2 (n:=31) (listed':=#[true,true,true,true,true,true,true,false,true,true,false,false]) rfl Bm Bm Bm Bm Bm rfl Bm (fun _ _ d _ _ h=>by cases d <;> exact h) ((Fr.refl _ w).drew) ?_;apply Exists.intro;refine ⟨fun wf Ff=>?_,?_⟩
 ·exact Bj
 refine loq 7 (fun w3 F3=>?_);have D3:=(Fr.refl [] w).drew.trans F3;clear F3 c3 c4 c5 c6 c7 c8;go_wp2_with fail;refine (HS.out _ D3).mono ?_;rintro e w4 ⟨rfl,A4,F4⟩;go_wp2_with fail;refine nx_normal ⟨(D3.mono).trans F4,?_⟩;refine loq 10 (fun w4' F4'=>?_);replace A4:=A4.kept F4' Bo Bo;replace F4:=F4.then F4';clear F4';go_wp2_with fail;refine nx_normal ⟨(D3.mono).trans F4,?_⟩;refine envL_tail (k:=11) rfl Bm (fun w5 F5=>?_);have A5:=A4.kept F5;have D4:Fr [p,q] w w5:=((D3.mono).trans F4).then F5;have h5:CmAt w5 b T pre post y:=Pb.kept HH.out D4 Bw;have D5:Fr [b,p,q] w w5:=D4.mono;clear A4 F4 F5 D3 D4;have HP:=Lib.hid (And.intro h5 (And.intro A5 D5));obtain ⟨c0,c1,c2,c3,c4,c5,c6,c7,c8⟩:=cm_cells h5 HL.out.2;have z5:=h5.frozen;clear h5 A5 D5;rw [HL.out.1] at c3;go_wp2_with fail;have h6:CmAt (w5.setCell ⟨b,o+4+1,none⟩ (.int .i64 v)) b T pre post { y with f1:=v }:=Pb.set HP.out.1 HL.out.2 (i:=5) (by show 5<9;omega) (.int .i64 v);have A6:Ar (w5.setCell ⟨b,o+4+1,none⟩ (.int .i64 v)) p q (y.act s):=HP.out.2.1.kept (Fr.setCell (S:=[b]) (b:=b) _ Bo) Bs Bt;have D6:=HP.out.2.2.setCell' (b:=b) (i:=o+4+1) (.int .i64 v) Bo;generalize (w5.setCell ⟨b,o+4+1,none⟩ (.int .i64 v))=w6 at *;clear c0 c1 c2 c3 c4 c5 c6 c7 c8 z5;refine (beh_any h6 HL.out.2).mono ?_;rintro e w7 ⟨rfl,F7⟩;have h7:CmAt w7 b T pre post { y with f1:=v }:=Pb.up h6 F7;have HR:=Lib.hid (And.intro h7 (And.intro (A6.kept F7) (D6.then F7)));have z7:=h7.frozen;obtain ⟨c0,c1,c2,c3,-⟩:=cm_cells h7 HL.out.2;clear h7 h6 A6 D6 F7 c0 c1 c2;generalize hlb:({ y with f1:=v }:Cm).behL=lb at *;exact Ab
theorem step2 (hl:y.ln=2) (t:Word.Tab w) (h:CmAt w b T pre post y) (ho:pre.size=o) (hA:Ar w p q s) (hne:b≠p∧b≠q) (hg:1≠p∧1≠q):Calls Tryd.prog 13 #[.pointer (some ⟨b,o,none⟩),.pointer (some ⟨p,0,none⟩)] w (PostS w b p q T pre post (y.step s) (y.act s)):=by
 obtain ⟨c0,c1,c2,c3,c4,c5,c6,c7,c8⟩:=cm_cells h ho;have HS:=Lib.hid (show ∀ wz,Fr [] w wz→Calls Tryd.prog 30 #[.pointer (some ⟨b,o,none⟩),.pointer (some ⟨p,0,none⟩)] wz fun e w'=>e = .returned (.int .i64 (y.told s))∧Ar w' p q (y.act s)∧Fr [p,q] wz w' from fun wz Fz=>acc_any Bn (Gp.tab_up t Fz) (Pb.up h Fz) ho (hA.kept Fz) hne hg);rw [hl] at c3;have q0:((2:Int) != 5)=true:=by decide
 have HL:=Lib.hid (And.intro hl ho);have HH:=Lib.hid h;have HNE:=Lib.hid hne;clear hl ho t hA hg hne h c0 c1 c2;unfold Cm.step;have hpt:y.put (y.told s) = { y with f2:=y.told s }:=by unfold Cm.put;simp [HL.out.1]
 rw [hpt];have HU:=Lib.hid hpt;clear hpt;generalize ht:y.told s=v at *;clear ht;go_enter Tryd.func13,Tryd.ntmps13;go_wp2_with fail;refine wp_region_free Bm ?_;refine take_move 0 rfl Bm Bm Bm rfl (fun _ _ d _ _ h=>by cases d <;> exact h) ?_;go_frame;simp only [Act.eval,Array.getD_eq_getD_getElem?,List.getElem?_toArray,List.getElem?_cons_zero,Option.getD_some];refine any_envL [p,q] w #[true,true,true,true,true,true,true,true,true,true,true,false] 10 1 rfl ?_;refine envT_pass [false,true,true,true,true,true,true,false,true,true,false,false] 2 (n:=31) (listed':=#[true,true,true,true,true,true,true,false,true,true,false,false]) rfl Bm Bm Bm Bm Bm rfl Bm (fun _ _ d _ _ h=>by cases d <;> exact h) ((Fr.refl _ w).drew) ?_;apply Exists.intro;refine ⟨fun wf Ff=>?_,?_⟩
 ·exact Bj
 refine loq 7 (fun w3 F3=>?_);have D3:=(Fr.refl [] w).drew.trans F3;clear F3 c3 c4 c5 c6 c7 c8;go_wp2_with fail;refine (HS.out _ D3).mono ?_;rintro e w4 ⟨rfl,A4,F4⟩;go_wp2_with fail;refine nx_normal ⟨(D3.mono).trans F4,?_⟩;refine loq 10 (fun w4' F4'=>?_);replace A4:=A4.kept F4' Bo Bo;replace F4:=F4.then F4';clear F4';go_wp2_with fail;refine nx_normal ⟨(D3.mono).trans F4,?_⟩;refine envL_tail (k:=11) rfl Bm (fun w5 F5=>?_);have A5:=A4.kept F5;have D4:Fr [p,q] w w5:=((D3.mono).trans F4).then F5;have h5:CmAt w5 b T pre post y:=Pb.kept HH.out D4 Bw;have D5:Fr [b,p,q] w w5:=D4.mono;clear A4 F4 F5 D3 D4;have HP:=Lib.hid (And.intro h5 (And.intro A5 D5));obtain ⟨c0,c1,c2,c3,c4,c5,c6,c7,c8⟩:=cm_cells h5 HL.out.2;have z5:=h5.frozen;clear h5 A5 D5;rw [HL.out.1] at c3;go_wp2_with fail;have h6:CmAt (w5.setCell ⟨b,o+4+2,none⟩ (.int .i64 v)) b T pre post { y with f2:=v }:=Pb.set HP.out.1 HL.out.2 (i:=6) (by show 6<9;omega) (.int .i64 v);have A6:Ar (w5.setCell ⟨b,o+4+2,none⟩ (.int .i64 v)) p q (y.act s):=HP.out.2.1.kept (Fr.setCell (S:=[b]) (b:=b) _ Bo) Bs Bt;have D6:=HP.out.2.2.setCell' (b:=b) (i:=o+4+2) (.int .i64 v) Bo;generalize (w5.setCell ⟨b,o+4+2,none⟩ (.int .i64 v))=w6 at *;clear c0 c1 c2 c3 c4 c5 c6 c7 c8 z5;refine (beh_any h6 HL.out.2).mono ?_;rintro e w7 ⟨rfl,F7⟩;have h7:CmAt w7 b T pre post { y with f2:=v }:=Pb.up h6 F7;have HR:=Lib.hid (And.intro h7 (And.intro (A6.kept F7) (D6.then F7)));have z7:=h7.frozen;obtain ⟨c0,c1,c2,c3,-⟩:=cm_cells h7 HL.out.2;clear h7 h6 A6 D6 F7 c0 c1 c2;generalize hlb:({ y with f2:=v }:Cm).behL=lb at *;exact Ab
theorem step3 (hl:y.ln=3) (t:Word.Tab w) (h:CmAt w b T pre post y) (ho:pre.size=o) (hA:Ar w p q s) (hne:b≠p∧b≠q) (hg:1≠p∧1≠q):Calls Tryd.prog 13 #[.pointer (some ⟨b,o,none⟩),.pointer (some ⟨p,0,none⟩)] w (PostS w b p q T pre post (y.step s) (y.act s)):=by
 obtain ⟨c0,c1,c2,c3,c4,c5,c6,c7,c8⟩:=cm_cells h ho;have HS:=Lib.hid (show ∀ wz,Fr [] w wz→Calls Tryd.prog 30 #[.pointer (some ⟨b,o,none⟩),.pointer (some ⟨p,0,none⟩)] wz fun e w'=>e = .returned (.int .i64 (y.told s))∧Ar w' p q (y.act s)∧Fr [p,q] wz w' from fun wz Fz=>acc_any Bn (Gp.tab_up t Fz) (Pb.up h Fz) ho (hA.kept Fz) hne hg);rw [hl] at c3;have q0:((3:Int) != 5)=true:=by decide
 have HL:=Lib.hid (And.intro hl ho);have HH:=Lib.hid h;have HNE:=Lib.hid hne;clear hl ho t hA hg hne h c0 c1 c2;unfold Cm.step;have hpt:y.put (y.told s) = { y with f3:=y.told s }:=by unfold Cm.put;simp [HL.out.1]
 rw [hpt];have HU:=Lib.hid hpt;clear hpt;generalize ht:y.told s=v at *;clear ht;go_enter Tryd.func13,Tryd.ntmps13;go_wp2_with fail;refine wp_region_free Bm ?_;refine take_move 0 rfl Bm Bm Bm rfl (fun _ _ d _ _ h=>by cases d <;> exact h) ?_;go_frame;simp only [Act.eval,Array.getD_eq_getD_getElem?,List.getElem?_toArray,List.getElem?_cons_zero,Option.getD_some];refine any_envL [p,q] w #[true,true,true,true,true,true,true,true,true,true,true,false] 10 1 rfl ?_;refine envT_pass [false,true,true,true,true,true,true,false,true,true,false,false] 2 (n:=31) (listed':=#[true,true,true,true,true,true,true,false,true,true,false,false]) rfl Bm Bm Bm Bm Bm rfl Bm (fun _ _ d _ _ h=>by cases d <;> exact h) ((Fr.refl _ w).drew) ?_;apply Exists.intro;refine ⟨fun wf Ff=>?_,?_⟩
 ·exact Bj
 refine loq 7 (fun w3 F3=>?_);have D3:=(Fr.refl [] w).drew.trans F3;clear F3 c3 c4 c5 c6 c7 c8;go_wp2_with fail;refine (HS.out _ D3).mono ?_;rintro e w4 ⟨rfl,A4,F4⟩;go_wp2_with fail;refine nx_normal ⟨(D3.mono).trans F4,?_⟩;refine loq 10 (fun w4' F4'=>?_);replace A4:=A4.kept F4' Bo Bo;replace F4:=F4.then F4';clear F4';go_wp2_with fail;refine nx_normal ⟨(D3.mono).trans F4,?_⟩;refine envL_tail (k:=11) rfl Bm (fun w5 F5=>?_);have A5:=A4.kept F5;have D4:Fr [p,q] w w5:=((D3.mono).trans F4).then F5;have h5:CmAt w5 b T pre post y:=Pb.kept HH.out D4 Bw;have D5:Fr [b,p,q] w w5:=D4.mono;clear A4 F4 F5 D3 D4;have HP:=Lib.hid (And.intro h5 (And.intro A5 D5));obtain ⟨c0,c1,c2,c3,c4,c5,c6,c7,c8⟩:=cm_cells h5 HL.out.2;have z5:=h5.frozen;clear h5 A5 D5;rw [HL.out.1] at c3;go_wp2_with fail;have h6:CmAt (w5.setCell ⟨b,o+4+3,none⟩ (.int .i64 v)) b T pre post { y with f3:=v }:=Pb.set HP.out.1 HL.out.2 (i:=7) (by show 7<9;omega) (.int .i64 v);have A6:Ar (w5.setCell ⟨b,o+4+3,none⟩ (.int .i64 v)) p q (y.act s):=HP.out.2.1.kept (Fr.setCell (S:=[b]) (b:=b) _ Bo) Bs Bt;have D6:=HP.out.2.2.setCell' (b:=b) (i:=o+4+3) (.int .i64 v) Bo;generalize (w5.setCell ⟨b,o+4+3,none⟩ (.int .i64 v))=w6 at *;clear c0 c1 c2 c3 c4 c5 c6 c7 c8 z5;refine (beh_any h6 HL.out.2).mono ?_;rintro e w7 ⟨rfl,F7⟩;have h7:CmAt w7 b T pre post { y with f3:=v }:=Pb.up h6 F7;have HR:=Lib.hid (And.intro h7 (And.intro (A6.kept F7) (D6.then F7)));have z7:=h7.frozen;obtain ⟨c0,c1,c2,c3,-⟩:=cm_cells h7 HL.out.2;clear h7 h6 A6 D6 F7 c0 c1 c2;generalize hlb:({ y with f3:=v }:Cm).behL=lb at *;exact Ab
theorem step4 (hl:y.ln=4) (t:Word.Tab w) (h:CmAt w b T pre post y) (ho:pre.size=o) (hA:Ar w p q s) (hne:b≠p∧b≠q) (hg:1≠p∧1≠q):Calls Tryd.prog 13 #[.pointer (some ⟨b,o,none⟩),.pointer (some ⟨p,0,none⟩)] w (PostS w b p q T pre post (y.step s) (y.act s)):=by
 obtain ⟨c0,c1,c2,c3,c4,c5,c6,c7,c8⟩:=cm_cells h ho;have HS:=Lib.hid (show ∀ wz,Fr [] w wz→Calls Tryd.prog 30 #[.pointer (some ⟨b,o,none⟩),.pointer (some ⟨p,0,none⟩)] wz fun e w'=>e = .returned (.int .i64 (y.told s))∧Ar w' p q (y.act s)∧Fr [p,q] wz w' from fun wz Fz=>acc_any Bn (Gp.tab_up t Fz) (Pb.up h Fz) ho (hA.kept Fz) hne hg);rw [hl] at c3;have q0:((4:Int) != 5)=true:=by decide
 have HL:=Lib.hid (And.intro hl ho);have HH:=Lib.hid h;have HNE:=Lib.hid hne;clear hl ho t hA hg hne h c0 c1 c2;unfold Cm.step;have hpt:y.put (y.told s) = { y with f4:=y.told s }:=by unfold Cm.put;simp [HL.out.1]
 rw [hpt];have HU:=Lib.hid hpt;clear hpt;generalize ht:y.told s=v at *;clear ht;go_enter Tryd.func13,Tryd.ntmps13;go_wp2_with fail;refine wp_region_free Bm ?_;refine take_move 0 rfl Bm Bm Bm rfl (fun _ _ d _ _ h=>by cases d <;> exact h) ?_;go_frame;simp only [Act.eval,Array.getD_eq_getD_getElem?,List.getElem?_toArray,List.getElem?_cons_zero,Option.getD_some];refine any_envL [p,q] w #[true,true,true,true,true,true,true,true,true,true,true,false] 10 1 rfl ?_;refine envT_pass [false,true,true,true,true,true,true,false,true,true,false,false] 2 (n:=31) (listed':=#[true,true,true,true,true,true,true,false,true,true,false,false]) rfl Bm Bm Bm Bm Bm rfl Bm (fun _ _ d _ _ h=>by cases d <;> exact h) ((Fr.refl _ w).drew) ?_;apply Exists.intro;refine ⟨fun wf Ff=>?_,?_⟩
 ·exact Bj
 refine loq 7 (fun w3 F3=>?_);have D3:=(Fr.refl [] w).drew.trans F3;clear F3 c3 c4 c5 c6 c7 c8;go_wp2_with fail;refine (HS.out _ D3).mono ?_;rintro e w4 ⟨rfl,A4,F4⟩;go_wp2_with fail;refine nx_normal ⟨(D3.mono).trans F4,?_⟩;refine loq 10 (fun w4' F4'=>?_);replace A4:=A4.kept F4' Bo Bo;replace F4:=F4.then F4';clear F4';go_wp2_with fail;refine nx_normal ⟨(D3.mono).trans F4,?_⟩;refine envL_tail (k:=11) rfl Bm (fun w5 F5=>?_);have A5:=A4.kept F5;have D4:Fr [p,q] w w5:=((D3.mono).trans F4).then F5;have h5:CmAt w5 b T pre post y:=Pb.kept HH.out D4 Bw;have D5:Fr [b,p,q] w w5:=D4.mono;clear A4 F4 F5 D3 D4;have HP:=Lib.hid (And.intro h5 (And.intro A5 D5));obtain ⟨c0,c1,c2,c3,c4,c5,c6,c7,c8⟩:=cm_cells h5 HL.out.2;have z5:=h5.frozen;clear h5 A5 D5;rw [HL.out.1] at c3;go_wp2_with fail;have h6:CmAt (w5.setCell ⟨b,o+4+4,none⟩ (.int .i64 v)) b T pre post { y with f4:=v }:=Pb.set HP.out.1 HL.out.2 (i:=8) (by show 8<9;omega) (.int .i64 v);have A6:Ar (w5.setCell ⟨b,o+4+4,none⟩ (.int .i64 v)) p q (y.act s):=HP.out.2.1.kept (Fr.setCell (S:=[b]) (b:=b) _ Bo) Bs Bt;have D6:=HP.out.2.2.setCell' (b:=b) (i:=o+4+4) (.int .i64 v) Bo;generalize (w5.setCell ⟨b,o+4+4,none⟩ (.int .i64 v))=w6 at *;clear c0 c1 c2 c3 c4 c5 c6 c7 c8 z5;refine (beh_any h6 HL.out.2).mono ?_;rintro e w7 ⟨rfl,F7⟩;have h7:CmAt w7 b T pre post { y with f4:=v }:=Pb.up h6 F7;have HR:=Lib.hid (And.intro h7 (And.intro (A6.kept F7) (D6.then F7)));have z7:=h7.frozen;obtain ⟨c0,c1,c2,c3,-⟩:=cm_cells h7 HL.out.2;clear h7 h6 A6 D6 F7 c0 c1 c2;generalize hlb:({ y with f4:=v }:Cm).behL=lb at *;exact Ab
theorem step_any (hl:0≤y.ln∧y.ln≤5) (t:Word.Tab w) (h:CmAt w b T pre post y) (ho:pre.size=o) (hA:Ar w p q s) (hne:b≠p∧b≠q) (hg:1≠p∧1≠q):Calls Tryd.prog 13 #[.pointer (some ⟨b,o,none⟩),.pointer (some ⟨p,0,none⟩)] w (PostS w b p q T pre post (if y.ln=5 then y else y.step s) (if y.ln=5 then s else y.act s)):=by
 by_cases e5:y.ln=5
 ·rw [if_pos e5,if_pos e5];obtain ⟨c0,c1,c2,c3,-⟩:=cm_cells h ho;have HS:=Lib.hid (And.intro h (And.intro hA e5));rw [e5] at c3;clear h hA hl e5 t c0 c1 c2 hne hg ho;go_enter Tryd.func13,Tryd.ntmps13;go_wp2;go_ret;exact ⟨by rw [decide_eq_true HS.out.2.2];rfl,HS.out.1,HS.out.2.1,Fr.refl _ _⟩
 ·rw [if_neg e5,if_neg e5];rcases (by omega:y.ln=0∨y.ln=1∨y.ln=2∨y.ln=3∨y.ln=4) with e | e | e | e | e
  ·exact step0 e t h ho hA hne hg
  ·exact step1 e t h ho hA hne hg
  ·exact step2 e t h ho hA hne hg
  ·exact step3 e t h ho hA hne hg
  ·exact step4 e t h ho hA hne hg
end
def Cm.new (vs t sq:Int):Cm:=⟨vs,3+t,sq,0,0,0,0,0,0⟩
def Cm.ver (y:Cm):Int:=if y.ln=5 then (if y.vs≤y.f0 then 0 else partW y.f4 - 2) else 0
def Cm.err (y:Cm):Int:=if y.ln=5 then (if y.vs≤y.f0 then 15 else 0) else 0
theorem new_any (c:Cf) (t sq:Int) (ht:0≤t∧t≤8) (w:World):Calls Tryd.prog 12 #[c.val,.int .i64 t,.int .i64 sq] w fun e w'=>∃ b,e = .returned (.pointer (some ⟨b,0,none⟩))∧w.heap.size≤b∧CmAt w' b 76 #[] #[] (Cm.new c.v t sq)∧Fr [] w w':=by
 unfold Cf.val;obtain ⟨c0,c1,c2,c3⟩:=Pl.cells4 (Go.heap_alloc_new w (.cells #[.int .i64 c.t,.int .i64 c.c,.int .i64 c.wd,.int .i64 c.v] 35));have F0:=(Fr.refl [] w).alloc (.cells #[.int .i64 c.t,.int .i64 c.c,.int .i64 c.wd,.int .i64 c.v] 35);have hh:=Lib.hid (fun w=>Pl.psa_any t ht.1 ht.2 w);clear ht;go_enter Tryd.func12,Tryd.ntmps12;go_wp2_with fail;generalize hw1:(w.alloc (.cells #[.int .i64 c.t,.int .i64 c.c,.int .i64 c.wd,.int .i64 c.v] 35))=w1 at *;refine wp_region_free Bm ?_;refine any_envL [] w1 #[true,true,true,true,true,true,false,false] 6 2 rfl ?_;refine envT_pass [true,true,true,true,true,true,false,false] 0 (n:=14) (listed':=#[true,true,true,true,true,true,false,false]) rfl Bm Bm Bm Bm Bm rfl Bm (fun _ _ d _ _ h=>by cases d <;> exact h) ((Fr.refl _ w1).drew) ?_;apply Exists.intro;refine ⟨fun wf Ff=>?_,?_⟩
 ·have k3:=In.cell (Ff.cell c3 Bo);simp only [sel];repeat (go_big_quiet_step ((go_at_call 17;exact Calls.in_same (hh.out _))))
  exact wpQuiet_nil rfl
 refine envL_tail (k:=6) rfl Bm (fun w5 F5=>?_);have F1:=F0.trans (((Fr.refl [] w1).drew).trans F5);clear c0 c1 c2 c3 hh F0;go_wp2_with fail;go_ret;exact ⟨w5.heap.size,rfl,F1.size,Ob.newAt rfl _ _,F1.alloc _⟩
section
variable {w:World} {b o p q:Nat} {T:TypeId} {pre post:Array Value} {y:Cm} {s:St}
theorem part_bd (a:Int):0≤partW a∧partW a<16777216:=by unfold partW;omega
def PostV (w:World) (v n:Int) (e:Ending) (w':World):Prop:=e = .returned (.tuple #[.int .i64 v,Pl.errv n])∧Fr [] w w'
theorem ver_any (h:CmAt w b T pre post y) (ho:pre.size=o):Calls Tryd.prog 14 #[.pointer (some ⟨b,o,none⟩)] w (PostV w y.ver y.err):=by
 have HN:=Lib.hid (And.intro (none_any h ho) (And.intro h ho));obtain ⟨c0,c1,c2,c3,c4,c5,c6,c7,c8⟩:=cm_cells h ho;by_cases e5:y.ln=5
 case neg =>
  have g:(y.ln != 5)=true:=by simpa using e5
  have e1:y.ver=0:=by unfold Cm.ver;rw [if_neg e5]
  have e2:y.err=0:=by unfold Cm.err;rw [if_neg e5]
  rw [e1,e2];clear e5 e1 e2 h ho;go_enter Tryd.func14,Tryd.ntmps14;go_wp2;exact bodyPost_ret (v:=.tuple #[.int .i64 0,.nilIface]) Ca rfl ⟨rfl,Fr.refl _ _⟩
 have g:(y.ln != 5)=false:=by simpa using e5
 by_cases ev:y.vs≤y.f0
 ·have e1:y.ver=0:=by unfold Cm.ver;rw [if_pos e5,if_pos ev]
  have e2:y.err=15:=by unfold Cm.err;rw [if_pos e5,if_pos ev]
  rw [e1,e2];rw [decide_eq_true ev] at HN;rw [e5] at c3;clear e5 e1 e2 h ho ev g;have q0:((5:Int) != 5)=false:=by decide
  go_enter Tryd.func14,Tryd.ntmps14;go_wp2_with fail;refine HN.out.1.mono ?_;rintro e w2 ⟨rfl,F2⟩;go_wp2;exact bodyPost_ret (v:=.tuple #[.int .i64 0,.iface 61 (.int .i64 15)]) Ca rfl ⟨rfl,F2⟩
 ·have e1:y.ver=partW y.f4 - 2:=by unfold Cm.ver;rw [if_pos e5,if_neg ev]
  have e2:y.err=0:=by unfold Cm.err;rw [if_pos e5,if_neg ev]
  rw [e1,e2];rw [decide_eq_false ev] at HN;rw [e5] at c3;clear e5 e1 e2 h ho ev g c0 c1 c2 c4 c5 c6 c7 c8;have q0:((5:Int) != 5)=false:=by decide
  have HB:=Lib.hid (part_bd y.f4);go_enter Tryd.func14,Tryd.ntmps14;go_wp2_with fail;refine HN.out.1.mono ?_;rintro e w2 ⟨rfl,F2⟩;obtain ⟨c0,c1,c2,c3,c4,c5,c6,c7,c8⟩:=cm_cells (Pb.up HN.out.2.1 F2) HN.out.2.2;clear c0 c1 c2 c4 c5 c6 c7;go_wp2_with fail;refine (Word.part_any y.f4 _).mono ?_;rintro e w3 ⟨rfl,rfl⟩;rw [show y.f4 % 16777216=partW y.f4 from rfl];have hw:wrap64 (partW y.f4 - 2)=partW y.f4 - 2:=w64 (by have:=HB.out;omega) (by have:=HB.out;omega);generalize partW y.f4=pv at *;have hb:=HB.out;go_wp2;exact bodyPost_ret (v:=.tuple #[.int .i64 (pv - 2),.nilIface]) (by simp [results,Tryd.results14,go_sem,hw]) rfl ⟨rfl,F2⟩
end
def KcIs (w:World) (b:Nat) (y:Cm):Prop:=CmAt w b 76 #[] #[] y
def Cm.go (y:Cm) (s:St):Cm×St:=if y.ln=5 then (y,s) else (y.step s,y.act s)
def runC:Nat→Cm→St→Cm×St
 | 0,y,s=>(y,s)
 | n+1,y,s=>let r:=runC n y s;r.1.go r.2
theorem behL_bd {y:Cm} (h:0≤y.ln∧y.ln≤4):0≤y.behL∧y.behL≤5:=by
 unfold Cm.behL;split
 ·omega
 ·rw [w64 Bn Bn];omega
theorem put_ln (y:Cm) (v:Int):(y.put v).ln=y.ln:=by
 unfold Cm.put;repeat' split
 all_goals rfl
theorem go_ln {y:Cm} {s:St} (h:0≤y.ln∧y.ln≤5):0≤(y.go s).1.ln∧(y.go s).1.ln≤5:=by
 unfold Cm.go;by_cases e:y.ln=5
 ·rw [if_pos e];exact h
 ·rw [if_neg e];exact behL_bd (by rw [put_ln];omega)
theorem run_ln {y:Cm} {s:St} (h:0≤y.ln∧y.ln≤5):∀ n,0≤(runC n y s).1.ln∧(runC n y s).1.ln≤5
 | 0=>h
 | n+1=>go_ln (run_ln h n)
theorem kstep_any {w:World} {b p q:Nat} {y:Cm} {s:St} (hl:0≤y.ln∧y.ln≤5) (t:Word.Tab w) (h:KcIs w b y) (hA:Ar w p q s) (hne:b≠p∧b≠q) (hg:1≠p∧1≠q):Calls Tryd.prog 13 #[.pointer (some ⟨b,0,none⟩),.pointer (some ⟨p,0,none⟩)] w fun e w'=>e = .returned (.bool (decide ((y.go s).1.ln=5)))∧KcIs w' b (y.go s).1∧Ar w' p q (y.go s).2∧Fr [b,p,q] w w':=by
 refine (step_any (o:=0) hl t h rfl hA hne hg).mono ?_;unfold PostS Cm.go;rintro e w' hh;by_cases e5:y.ln=5
 ·rw [if_pos e5,if_pos e5] at hh;rw [if_pos e5];exact hh
 ·rw [if_neg e5,if_neg e5] at hh;rw [if_neg e5];exact hh
set_option maxRecDepth 100000
def s0:St:=Pl.begun 2 4 100
def y0:Cm:=⟨1000,4,3,0,0,0,0,0,0⟩
def y1:Cm:=⟨1,3,1,0,0,0,0,0,0⟩
theorem go5:(runC 5 y0 s0).1.ln=5∧(runC 5 y0 s0).1.ver=0∧(runC 5 y0 s0).1.err=0:=by decide +kernel
theorem go4:∀ k,k<5→(runC k y0 s0).1.ln≠5:=by decide +kernel
theorem pk5:peek ((y1.go (runC 5 y0 s0).2).2).l 1=1∧peek ((y1.go (runC 5 y0 s0).2).2).l 4=50331650:=by decide +kernel
theorem one:(y1.go (runC 5 y0 s0).2).1.ln=5∧(y1.go (runC 5 y0 s0).2).1.err=15∧(y1.go (runC 5 y0 s0).2).1.ver=0:=by decide +kernel
theorem tabLt {w:World} (t:Word.Tab w):1<w.heap.size:=World.block_lt_of_cell? w _ t.1
theorem new1 (w:World):Calls Tryd.prog 12 #[.agg #[.int .i64 2,.int .i64 4,.int .i64 100,.int .i64 1000],.int .i64 1,.int .i64 3] w fun e w'=>∃ b,e = .returned (.pointer (some ⟨b,0,none⟩))∧w.heap.size≤b∧KcIs w' b y0∧Fr [] w w':=new_any ⟨2,4,100,1000⟩ 1 3 Bp w
theorem new2 (w:World):Calls Tryd.prog 12 #[.agg #[.int .i64 2,.int .i64 4,.int .i64 100,.int .i64 1],.int .i64 0,.int .i64 1] w fun e w'=>∃ b,e = .returned (.pointer (some ⟨b,0,none⟩))∧w.heap.size≤b∧KcIs w' b y1∧Fr [] w w':=new_any ⟨2,4,100,1⟩ 0 1 Bp w
def KcR (W:World) (b p q:Nat) (y:Cm) (s:St) (v:Value) (wr:World):Prop:=∃ k,v = .int .i64 (k:Nat)∧k<5∧KcIs wr b (runC k y s).1∧Ar wr p q (runC k y s).2∧Fr [b,p,q] W wr
theorem known_true (w:World) (t:Word.Tab w):Calls Tryd.prog 8 #[] w fun e w'=>e = .returned (.bool true)∧Fr [] w w':=by
 have isE:=Er.isE;go_enter Tryd.func8,Tryd.ntmps8;go_wp2_with fail;refine (Pl.conf_any 2 4 100 _).mono ?_;rintro e w1 ⟨rfl,F1⟩;have G:=F1.alloc (.cells #[.int .i64 2,.int .i64 4,.int .i64 100,.int .i64 1000] 35);have oc:=Ob.new w1 35 #[.int .i64 2,.int .i64 4,.int .i64 100,.int .i64 1000];obtain ⟨c0,c1,c2,c3⟩:=Pl.cells4 oc;have hcw:=oc.lt;have hw1:=F1.size;clear F1;go_wp2_with fail;refine (Pl.make_yes 2 4 100 1000 Bp _).mono ?_;rintro e w2 ⟨p,q,rfl,hp,hq,A,F2⟩;rw [sizeA] at hp hq;replace oc:=oc.up F2;have hA2:=A.lt;replace G:=G.trans F2;have A:Ar w2 p q s0:=A;clear F2 c0 c1 c2 c3;generalize hbc:w1.heap.size=bc at *;obtain ⟨c0,c1,c2,c3⟩:=Pl.cells4 oc;have hcl:=oc.lt;have hG:=G.size;go_wp2_with fail;refine (new1 _).mono ?_;rintro e w3 ⟨b,rfl,hb,D,F3⟩;replace A:=A.kept F3;replace oc:=oc.up F3;replace G:=G.trans F3;have hlt:=tabLt t;have HN:=Lib.hid (show (b≠p∧b≠q)∧(1≠p∧1≠q∧1≠b∧1≠bc)∧(bc≠b∧bc≠p∧bc≠q)∧(w.heap.size≤b∧w.heap.size≤p∧w.heap.size≤q∧w.heap.size≤bc) by omega);have HT:=Lib.hid (Gp.tab_up t G);have HO:=Lib.hid oc;have HG:=Lib.hid G;clear F3 c0 c1 c2 c3 t hcw hw1 hp hq hA2 hcl hG hb hlt oc G hbc;go_wp2_with fail;go_loopw [5] (KcR w3 b p q y0 s0) (fun v _=>20 - (intOf v).toNat);case atStart=>exact ⟨0,rfl,by omega,D,A,Fr.refl _ _⟩
 ·skip;obtain ⟨k,rfl,hk5,D2,A2,F2⟩:=hrel;have HS:=Lib.hid (kstep_any (run_ln (y:=y0) (s:=s0) Bp k) (Gp.tab_kept HT.out F2 Br) D2 A2 HN.out.1 ⟨HN.out.2.1.1,HN.out.2.1.2.1⟩);have HF:=Lib.hid F2;have g1:decide ((k:Int)<9)=true:=by simp;omega
  clear D2 A2 F2;go_wp2_with fail;refine HS.out.mono ?_;rintro e w4 ⟨rfl,D3,A3,F3⟩;have HF4:=Lib.hid (HF.out.trans F3);clear HF F3;by_cases hk:k<4
  ·have g3:decide (((runC k y0 s0).1.go (runC k y0 s0).2).1.ln=5)=false:=by simp;exact go4 (k+1) Bn
   exact Am
  ·obtain rfl:k=4:=by omega
   have g3:decide (((runC 4 y0 s0).1.go (runC 4 y0 s0).2).1.ln=5)=true:=by simp;exact go5.1
   have D4:KcIs w4 b (runC 5 y0 s0).1:=D3;have A4:Ar w4 p q (runC 5 y0 s0).2:=A3;have HA:=Lib.hid A4;have HV:=Lib.hid (ver_any (o:=0) D4 rfl);rw [go5.2.1,go5.2.2] at HV;clear D3 A3 HS D4 A4;go_wp2_with fail;refine HV.out.mono ?_;rintro e w5 ⟨rfl,F5⟩;rw [show Pl.errv 0 = .nilIface from rfl];have FF:=HF4.out.then F5;have A5:=HA.out.kept F5;have o5:=HO.out.kept FF Bz;have t5:=Gp.tab_kept HT.out FF Br;have HG5:=Lib.hid (HG.out.own FF Bu);obtain ⟨c0,c1,c2,c3⟩:=Pl.cells4 o5;have z5:=o5.frozen;have HO5:=Lib.hid o5;have HA5:=Lib.hid (And.intro A5 t5);clear FF HF4 F5 HV HA A5 t5 o5;go_wp2_with fail;have o6:Ob (w5.setCell ⟨bc,3,none⟩ (.int .i64 1)) bc 35 #[.int .i64 2,.int .i64 4,.int .i64 100,.int .i64 1]:=Ob.set HO5.out (i:=3) (.int .i64 1);have F6:Fr [bc] w5 (w5.setCell ⟨bc,3,none⟩ (.int .i64 1)):=Fr.setCell (S:=[bc]) (b:=bc) _ Bo;generalize (w5.setCell ⟨bc,3,none⟩ (.int .i64 1))=w6 at *;have A6:=HA5.out.1.kept F6 (by simp;exact HN.out.2.2.1.2.1.symm) (by simp;exact HN.out.2.2.1.2.2.symm);have t6:=Gp.tab_kept HA5.out.2 F6 (by simp;exact HN.out.2.1.2.2.2);have HG6:=Lib.hid (HG5.out.own F6 (by simp;exact HN.out.2.2.2.2.2.2));clear c0 c1 c2 c3 z5 HO5 HG5 HA5 F6;obtain ⟨c0,c1,c2,c3⟩:=Pl.cells4 o6;have hA6:=A6.lt;have hT6:=tabLt t6;clear o6;go_wp2_with fail;refine (new2 _).mono ?_;rintro e w7 ⟨b2,rfl,hb2,D7,F7⟩;have A7:=A6.kept F7;have t7:=Gp.tab_up t6 F7;have HN2:=Lib.hid (show (b2≠p∧b2≠q) by omega);have hb3:w.heap.size≤b2:=Nat.le_trans HG6.out.size hb2;have HG7:=Lib.hid (And.intro (HG6.out.trans F7) hb3);have HS:=Lib.hid (kstep_any (y:=y1) Bp t7 D7 A7 HN2.out ⟨HN.out.2.1.1,HN.out.2.1.2.1⟩);rw [show decide ((y1.go (runC 5 y0 s0).2).1.ln=5)=true from decide_eq_true one.1] at HS;clear c0 c1 c2 c3 hA6 hT6 A6 t6 HG6 F7 D7 A7 t7 hb2 hb3;go_wp2_with fail;refine HS.out.mono ?_;rintro e w8 ⟨rfl,D8,A8,F8⟩;have HV:=Lib.hid (ver_any (o:=0) D8 rfl);rw [one.2.1,one.2.2] at HV;have HA8:=Lib.hid (And.intro A8 F8);clear D8 A8 F8 HS;go_wp2_with fail;refine HV.out.mono ?_;rintro e w9 ⟨rfl,F9⟩;rw [show Pl.errv 15 = .iface 61 (.int .i64 15) from rfl];have HA9:=Lib.hid (HA8.out.1.kept F9);have HF9:=Lib.hid (HG7.out.1.own (HA8.out.2.then F9) (by have:=HG7.out.2;have:=HN.out.2.2.2;simp;omega));clear F9 HA8 HV;go_wp2_with fail;refine (peek_any _ p q _ _ HA9.out).mono ?_;rintro e _ ⟨rfl,rfl⟩;rw [pk5.1];go_wp2_with fail;refine (Pl.psa_any 1 Bp Bp _).mono ?_;rintro e _ ⟨rfl,rfl⟩;rw [show (3+1:Int)=4 by decide];go_wp2_with fail;refine (peek_any _ p q _ _ HA9.out).mono ?_;rintro e _ ⟨rfl,rfl⟩;rw [pk5.2];go_wp2_with fail;refine (Er.is_same 15 _).mono ?_;rintro e w10 ⟨rfl,rfl⟩;go_wp2;go_ret;exact ⟨rfl,HF9.out⟩
theorem peekD (l:List Int) (q:Int):peek l q=if 0≤q∧q<(l.length:Int) then l.getD q.toNat 0 else 0:=by unfold peek isAt nth;simp only [Bool.and_eq_true,decide_eq_true_eq]
theorem peekP (l:List Int) (p v q:Int):peek (poke l p v) q=if q=p∧0≤p∧p<(l.length:Int) then v else peek l q:=by
 by_cases hp:0≤p∧p<(l.length:Int)
 ·obtain ⟨k,rfl⟩:=Int.eq_ofNat_of_zero_le hp.1;have hk:k<l.length:=by omega
  have e:poke l (k:Int) v=l.set k v:=by unfold poke isAt;simp [hk]
  rw [e,peekD,peekD l,List.length_set];by_cases hq:0≤q∧q<(l.length:Int)
  ·rw [if_pos hq,if_pos hq];by_cases h:q=(k:Int)
   ·subst h;rw [if_pos ⟨rfl,hp⟩,Int.toNat_natCast,List.getD_eq_getElem?_getD,List.getElem?_set_self hk];rfl
   ·rw [if_neg (fun e=>h e.1),List.getD_eq_getElem?_getD,List.getElem?_set_ne Bn,List.getD_eq_getElem?_getD]
  ·rw [if_neg hq,if_neg hq,if_neg (fun e=>hq (by rw [e.1];exact e.2))]
 ·have e:poke l p v=l:=by unfold poke isAt;rw [if_neg (by simpa using hp)]
  rw [e,if_neg (fun h=>hp h.2)]
theorem pokeL (l:List Int) (p v:Int):(poke l p v).length=l.length:=by unfold poke;split <;> simp
theorem part_claim (sq v:Int) (h0:0≤v) (h1:v≤16777212):partW (claimW sq v)=v:=by unfold partW claimW hd;omega
theorem g0 (vs ps sq a1 a2 a3 a4 a0:Int) (s:St) (h:peek s.l 1<vs):(⟨vs,ps,sq,0,a0,a1,a2,a3,a4⟩:Cm).go s=(⟨vs,ps,sq,1,peek s.l 1,a1,a2,a3,a4⟩,s.load 1):=Ah
theorem g0e (vs ps sq a1 a2 a3 a4 a0:Int) (s:St) (h:vs≤peek s.l 1):(⟨vs,ps,sq,0,a0,a1,a2,a3,a4⟩:Cm).go s=(⟨vs,ps,sq,5,peek s.l 1,a1,a2,a3,a4⟩,s.load 1):=by simp only [Cm.go,Cm.step,Cm.act,Cm.told,Cm.put,Cm.behL];simp [h]
theorem g1 (vs ps sq a1 a2 a3 a4 a0:Int) (s:St) (h:a0<vs):(⟨vs,ps,sq,1,a0,a1,a2,a3,a4⟩:Cm).go s=(⟨vs,ps,sq,2,a0,0,a2,a3,a4⟩,s.store ps (claimW sq 1)):=Ah
theorem g2 (vs ps sq a1 a2 a3 a4 a0:Int) (s:St) (h:a0<vs):(⟨vs,ps,sq,2,a0,a1,a2,a3,a4⟩:Cm).go s=(⟨vs,ps,sq,3,a0,a1,peek s.l 1,a3,a4⟩,s.add 1 1):=Ah
theorem g3 (vs ps sq a1 a2 a3 a4 a0:Int) (s:St) (h:a0<vs):(⟨vs,ps,sq,3,a0,a1,a2,a3,a4⟩:Cm).go s=(⟨vs,ps,sq,4,a0,a1,a2,0,a4⟩,s.swap ps (claimW sq 1) (claimW sq (wrap64 (a2+2)))):=Ah
theorem g4 (vs ps sq a1 a2 a3 a4 a0:Int) (s:St) (h:a0<vs):(⟨vs,ps,sq,4,a0,a1,a2,a3,a4⟩:Cm).go s=(⟨vs,ps,sq,5,a0,a1,a2,a3,peek s.l ps⟩,s.load ps):=Ah
def y00 (vs ps sq:Int):Cm:=⟨vs,ps,sq,0,0,0,0,0,0⟩
theorem run5 (vs ps sq:Int) (s:St) (h1:1<(s.l.length:Int)) (hp:0≤ps∧ps<(s.l.length:Int)) (hne:ps≠1) (h0:0≤peek s.l 1) (hv:peek s.l 1<vs) (hb:peek s.l 1≤1048576) :
  (∀ k,k<5→(runC k (y00 vs ps sq) s).1.ln=(k:Int))∧(runC 5 (y00 vs ps sq) s).1.ln=5∧(runC 5 (y00 vs ps sq) s).1.ver=peek s.l 1∧(runC 5 (y00 vs ps sq) s).1.err=0 ∧
  (runC 5 (y00 vs ps sq) s).2.l.length=s.l.length∧∀ j,peek (runC 5 (y00 vs ps sq) s).2.l j=if j=1 then peek s.l 1+1 else if j=ps then claimW sq (peek s.l 1+2) else peek s.l j:=by
 have e1:runC 1 (y00 vs ps sq) s=(⟨vs,ps,sq,1,peek s.l 1,0,0,0,0⟩,s.load 1):=g0 vs ps sq 0 0 0 0 0 s hv
 have e2:runC 2 (y00 vs ps sq) s=(⟨vs,ps,sq,2,peek s.l 1,0,0,0,0⟩,(s.load 1).store ps (claimW sq 1)):=by show (runC 1 (y00 vs ps sq) s).1.go (runC 1 (y00 vs ps sq) s).2=_;rw [e1];exact g1 vs ps sq 0 0 0 0 _ _ hv
 have l2:((s.load 1).store ps (claimW sq 1)).l=poke s.l ps (claimW sq 1):=rfl;have p2:peek (poke s.l ps (claimW sq 1)) 1=peek s.l 1:=by rw [peekP,if_neg Bn]
 have e3:runC 3 (y00 vs ps sq) s=(⟨vs,ps,sq,3,peek s.l 1,0,peek s.l 1,0,0⟩,((s.load 1).store ps (claimW sq 1)).add 1 1):=by show (runC 2 (y00 vs ps sq) s).1.go (runC 2 (y00 vs ps sq) s).2=_;rw [e2];have:=g2 vs ps sq 0 0 0 0 (peek s.l 1) ((s.load 1).store ps (claimW sq 1)) hv;rw [l2,p2] at this;exact this
 generalize hs3:((s.load 1).store ps (claimW sq 1)).add 1 1=s3 at *
 have l3:s3.l=poke (poke s.l ps (claimW sq 1)) 1 (peek s.l 1+1):=by rw [← hs3];show poke ((s.load 1).store ps (claimW sq 1)).l 1 (wrap64 (peek ((s.load 1).store ps (claimW sq 1)).l 1+1))=_;rw [l2,p2,w64 Bn Bn]
 have p3:∀ j,peek s3.l j=if j=1 then peek s.l 1+1 else if j=ps then claimW sq 1 else peek s.l j:=by
  intro j;rw [l3,peekP,pokeL];by_cases e:j=1
  ·rw [if_pos e,if_pos ⟨e,by omega,by omega⟩]
  ·rw [if_neg e,if_neg (fun h=>e h.1),peekP];by_cases e':j=ps
   ·rw [if_pos e',if_pos ⟨e',by omega,by omega⟩]
   ·rw [if_neg e',if_neg (fun h=>e' h.1)]
 have n3:s3.l.length=s.l.length:=by rw [l3,pokeL,pokeL]
 have e4:runC 4 (y00 vs ps sq) s=(⟨vs,ps,sq,4,peek s.l 1,0,peek s.l 1,0,0⟩,s3.swap ps (claimW sq 1) (claimW sq (peek s.l 1+2))):=by show (runC 3 (y00 vs ps sq) s).1.go (runC 3 (y00 vs ps sq) s).2=_;rw [e3];have:=g3 vs ps sq 0 (peek s.l 1) 0 0 (peek s.l 1) s3 hv;rw [w64 Bn Bn] at this;exact this
 have c4:s3.can ps (claimW sq 1)=true:=by unfold St.can;rw [p3,if_neg hne,if_pos rfl];simp [isAt];omega
 generalize hs4:s3.swap ps (claimW sq 1) (claimW sq (peek s.l 1+2))=s4 at *
 have l4:s4.l=poke s3.l ps (claimW sq (peek s.l 1+2)):=by rw [← hs4];unfold St.swap;rw [if_pos c4];rfl
 have p4:∀ j,peek s4.l j=if j=1 then peek s.l 1+1 else if j=ps then claimW sq (peek s.l 1+2) else peek s.l j:=by
  intro j;rw [l4,peekP];by_cases e:j=ps
  ·rw [if_pos ⟨e,by omega,by omega⟩,if_neg Bn,if_pos e]
  ·rw [if_neg (fun h=>e h.1),p3];by_cases e':j=1
   ·rw [if_pos e',if_pos e']
   ·rw [if_neg e',if_neg e,if_neg e',if_neg e]
 have e5:runC 5 (y00 vs ps sq) s=(⟨vs,ps,sq,5,peek s.l 1,0,peek s.l 1,0,claimW sq (peek s.l 1+2)⟩,s4.load ps):=by show (runC 4 (y00 vs ps sq) s).1.go (runC 4 (y00 vs ps sq) s).2=_;rw [e4];have:=g4 vs ps sq 0 (peek s.l 1) 0 0 (peek s.l 1) s4 hv;rw [p4 ps,if_neg hne,if_pos rfl] at this;exact this
 refine ⟨?_,?_,?_,?_,?_,?_⟩
 ·intro k hk;rcases (by omega:k=0∨k=1∨k=2∨k=3∨k=4) with rfl | rfl | rfl | rfl | rfl
  ·rfl
  ·rw [e1];rfl
  ·rw [e2];rfl
  ·rw [e3];rfl
  ·rw [e4];rfl
 ·rw [e5]
 ·rw [e5];simp only [Cm.ver];rw [if_pos trivial,if_neg Bn,part_claim _ _ Bn Bn];omega
 ·rw [e5];simp only [Cm.err];rw [if_pos trivial,if_neg Bn]
 ·rw [e5];show s4.l.length=_;rw [l4,pokeL,n3]
 ·intro j;rw [e5];exact p4 j
set_option maxRecDepth 100000
theorem len0:s0.l.length=100:=by decide +kernel
theorem pk0:peek s0.l 4=0:=by decide +kernel
theorem peekK (n:Int) (j:Int):peek (s0.poke 1 n).l j=if j=1 then n else peek s0.l j:=by
 show peek (poke s0.l 1 n) j=_;rw [peekP];by_cases e:j=1
 ·rw [if_pos e,if_pos ⟨e,by omega,by rw [len0];omega⟩]
 ·rw [if_neg e,if_neg (fun h=>e h.1)]
theorem lenK (n:Int):(s0.poke 1 n).l.length=100:=by show (poke s0.l 1 n).length=_;rw [pokeL,len0]
theorem code13 {v:Int} (h:1≤v∧v≤50):Pl.code 2 4 100 v=0:=by unfold Pl.code;rw [if_pos (Pl.form_iff.2 ⟨by decide,by decide,by decide,by decide,h.1,by omega,by decide,by decide⟩),if_pos Bp]
structure EndsAt (y:Cm) (s:St) (n:Nat) (v x ck ps:Int):Prop where
 on:∀ k,k+1<n→(runC (k+1) y s).1.ln≠5
 off:(runC n y s).1.ln=5
 ver:(runC n y s).1.ver=v
 err:(runC n y s).1.err=x
 clock:peek (runC n y s).2.l 1=ck
 psa:peek (runC n y s).2.l 4=ps
theorem ends_no (nv n:Int) (h:nv≤n):EndsAt (y00 nv 4 7) (s0.poke 1 n) 1 0 15 n 0:=by
 have p1:peek (s0.poke 1 n).l 1=n:=by rw [peekK,if_pos rfl]
 have e1:runC 1 (y00 nv 4 7) (s0.poke 1 n)=(⟨nv,4,7,5,n,0,0,0,0⟩,(s0.poke 1 n).load 1):=by have:=g0e nv 4 7 0 0 0 0 0 (s0.poke 1 n) (by rw [p1];exact h);rw [p1] at this;exact this
 refine ⟨fun k hk=>by omega,by rw [e1],?_,?_,?_,?_⟩
 ·rw [e1];simp only [Cm.ver];rw [if_pos trivial,if_pos h]
 ·rw [e1];simp only [Cm.err];rw [if_pos trivial,if_pos h]
 ·rw [e1];exact p1
 ·rw [e1];show peek (s0.poke 1 n).l 4=0;rw [peekK,if_neg Bp,pk0]
theorem ends_yes (nv n:Int) (h:n<nv) (h0:0≤n) (hb:n≤1048576):EndsAt (y00 nv 4 7) (s0.poke 1 n) 5 n 0 (n+1) (claimW 7 (n+2)):=by
 have p1:peek (s0.poke 1 n).l 1=n:=by rw [peekK,if_pos rfl]
 obtain ⟨r1,r2,r3,r4,r5,r6⟩:=run5 nv 4 7 (s0.poke 1 n) (by rw [lenK];decide) (by rw [lenK];decide) Bp (by rw [p1];exact h0) (by rw [p1];exact h) (by rw [p1];exact hb);rw [p1] at r3 r6;refine ⟨fun k hk=>?_,r2,r3,r4,?_,?_⟩
 ·rw [r1 (k+1) hk];omega
 ·rw [r6,if_pos rfl]
 ·rw [r6,if_neg Bp,if_pos rfl]
theorem ends_any0 (nv n:Int) (h0:0≤n) (hb:n≤1048576):∃ m v x ck ps,EndsAt (y00 nv 4 7) (s0.poke 1 n) m v x ck ps∧1≤m∧m≤5∧((nv≤n∧m=1∧v=0∧x=15∧ck=n∧ps=0)∨(n<nv∧m=5∧v=n∧x=0∧ck=n+1)):=by
 by_cases h:nv≤n
 ·exact ⟨1,0,15,n,0,ends_no nv n h,by decide,by decide,.inl ⟨h,rfl,rfl,rfl,rfl,rfl⟩⟩
 ·exact ⟨5,n,0,n+1,claimW 7 (n+2),ends_yes nv n Bn h0 hb,by decide,by decide,.inr ⟨by omega,rfl,rfl,rfl,rfl⟩⟩
theorem newE (nv:Int) (w:World):Calls Tryd.prog 12 #[.agg #[.int .i64 2,.int .i64 4,.int .i64 100,.int .i64 nv],.int .i64 1,.int .i64 7] w fun e w'=>∃ b,e = .returned (.pointer (some ⟨b,0,none⟩))∧w.heap.size≤b∧KcIs w' b (y00 nv 4 7)∧Fr [] w w':=new_any ⟨2,4,100,nv⟩ 1 7 Bp w
def KeR (W:World) (b p q m:Nat) (y:Cm) (s:St) (v:Value) (wr:World):Prop:=∃ k,v = .int .i64 ((k+1:Nat):Int)∧k<m∧KcIs wr b (runC k y s).1∧Ar wr p q (runC k y s).2∧Fr [b,p,q] W wr
theorem ends13_any (a0 a1:Int) (w:World) (t:Word.Tab w) (h0:0≤a0∧a0≤65535) (h1:0≤a1∧a1≤65535):Calls Tryd.prog 5 #[.int .u16 a0,.int .u16 a1] w fun e w'=>e = .returned (.bool true)∧Fr [] w w':=by
 have HK:=Lib.hid (known_true w t);go_enter Tryd.func5,Tryd.ntmps5;go_wp2_with fail;refine HK.out.mono ?_;rintro e w0 ⟨rfl,G0⟩;clear HK;go_wp2_with fail;refine (Pl.conf_any 2 4 100 _).mono ?_;rintro e w1 ⟨rfl,F1⟩;have hnv0:1≤a0 % 50+1∧a0 % 50+1≤50:=by omega
 have hck0:0≤a1 % 100∧a1 % 100≤99:=by omega
 go_wp2_with fail;generalize hnv:a0 % 50+1=nv at *;have G:=(G0.trans F1).alloc (.cells #[.int .i64 2,.int .i64 4,.int .i64 100,.int .i64 nv] 35);have oc:=Ob.new w1 35 #[.int .i64 2,.int .i64 4,.int .i64 100,.int .i64 nv];have hcw:=oc.lt;have hw1:=(G0.trans F1).size;clear F1 G0 hnv h0;refine (Pl.make_yes 2 4 100 nv (code13 hnv0) _).mono ?_;rintro e w2 ⟨p,q,rfl,hp,hq,A,F2⟩;rw [sizeA] at hp hq;replace oc:=oc.up F2;have hA2:=A.lt;replace G:=G.trans F2;have A:Ar w2 p q s0:=A;clear F2;generalize hbc:w1.heap.size=bc at *;have hcl:=oc.lt;have hG:=G.size;have HN0:=Lib.hid (show (bc≠p∧bc≠q)∧(w.heap.size≤p∧w.heap.size≤q∧w.heap.size≤bc) by omega);have hpq2:p<w2.heap.size∧q<w2.heap.size∧bc<w2.heap.size:=by omega
 clear hcw hw1 hp hq hA2 hcl hG hbc;go_wp2_with fail;generalize hck:a1 % 100=ck at *;clear hck h1;refine (poke_any _ p q _ _ _ A).mono ?_;rintro e w3 ⟨rfl,A3,F3⟩;replace oc:=oc.kept F3 (by simp;exact HN0.out.1.2);replace G:=G.own F3 (by simp;exact HN0.out.2.2.1);have hs3:=F3.size;clear A F3;obtain ⟨c0,c1,c2,c3⟩:=Pl.cells4 oc;go_wp2_with fail;refine (newE nv _).mono ?_;rintro e w4 ⟨b,rfl,hb,D,F4⟩;replace A3:=A3.kept F4;replace oc:=oc.up F4;replace G:=G.trans F4;have hlt:=tabLt t;have hpl:=HN0.out;have HN:=Lib.hid (show (b≠p∧b≠q)∧(1≠p∧1≠q∧1≠b∧1≠bc)∧(bc≠b∧bc≠p∧bc≠q)∧(w.heap.size≤b∧w.heap.size≤p∧w.heap.size≤q∧w.heap.size≤bc) by omega);have HT:=Lib.hid (Gp.tab_up t G);have HO:=Lib.hid oc;have HG:=Lib.hid G;clear F4 c0 c1 c2 c3 t hb hlt oc G hs3 hpq2 hpl HN0;obtain ⟨m,v,x,ce,pe,hE,hm1,hm5,hcase⟩:=ends_any0 nv ck hck0.1 Bn;have HE:=Lib.hid hE;have HC:=Lib.hid (And.intro hcase (And.intro hnv0 hck0));have HM:=Lib.hid (And.intro hm1 hm5);clear hE hcase hm1 hm5 hnv0 hck0;generalize hst:s0.poke 1 ck=st at *;clear hst;go_wp2_with fail;go_loopw [10] (KeR w4 b p q m (y00 nv 4 7) st) (fun v _=>20 - (intOf v).toNat);case atStart=>exact ⟨0,rfl,HM.out.1,D,A3,Fr.refl _ _⟩
 ·skip;obtain ⟨k,rfl,hkm,D2,A2,F2⟩:=hrel;have HS:=Lib.hid (kstep_any (run_ln (y:=y00 nv 4 7) (s:=st) C8 k) (Gp.tab_kept HT.out F2 Br) D2 A2 HN.out.1 ⟨HN.out.2.1.1,HN.out.2.1.2.1⟩);have HF:=Lib.hid F2;have hm5:=HM.out.2;have g1:decide (((k+1:Nat):Int)<9)=true:=by simp;omega
  clear D2 A2 F2;go_wp2_with fail;refine HS.out.mono ?_;rintro e w5 ⟨rfl,D3,A3,F3⟩;have HF4:=Lib.hid (HF.out.trans F3);clear HF F3;by_cases hk:k+1<m
  ·have g3:decide (((runC k (y00 nv 4 7) st).1.go (runC k (y00 nv 4 7) st).2).1.ln=5)=false:=by simp;exact HE.out.on k hk
   go_wp2_with fail;go_roundw;case rel=>exact ⟨k+1,by simp,hk,D3,A3,HF4.out⟩
   case measure=>simp [intOf];omega
  ·obtain rfl:m=k+1:=by omega
   have g3:decide (((runC k (y00 nv 4 7) st).1.go (runC k (y00 nv 4 7) st).2).1.ln=5)=true:=by simp;exact HE.out.off
   have D4:KcIs w5 b (runC (k+1) (y00 nv 4 7) st).1:=D3;have A4:Ar w5 p q (runC (k+1) (y00 nv 4 7) st).2:=A3;have HA:=Lib.hid A4;have HV:=Lib.hid (ver_any (o:=0) D4 rfl);rw [HE.out.ver,HE.out.err] at HV;have HP:=Lib.hid (And.intro HE.out.clock HE.out.psa);generalize (runC (k+1) (y00 nv 4 7) st).2=se at *;clear D3 A3 D4 A4;go_wp2_with fail;clear HS;refine HV.out.mono ?_;rintro e w6 ⟨rfl,F6⟩;have FF:=HF4.out.then F6;have A6:=HA.out.kept F6;have o6:=HO.out.kept FF Bz;have HG6:=Lib.hid (HG.out.own FF Bu);have HA6:=Lib.hid A6;obtain ⟨c0,c1,c2,c3⟩:=Pl.cells4 o6;clear FF HF4 F6 HV HA A6 o6 HE g1 g3 D A3;rcases HC.out.1 with ⟨hle,hm,rfl,rfl,rfl,rfl⟩ | ⟨hlt,hm,rfl,rfl,rfl⟩
   ·have q1:decide (ce≥nv)=true:=by simpa using hle
    have q2:decide (nv≤ce)=true:=by simpa using hle
    obtain rfl:k=0:=by omega
    clear hle hm;rw [show Pl.errv 15 = .iface 61 (.int .i64 15) from rfl];go_wp2_with fail;refine (peek_any _ p q _ _ HA6.out).mono ?_;rintro e _ ⟨rfl,rfl⟩;rw [HP.out.1];go_wp2_with fail;refine (Pl.psa_any 1 Bp Bp _).mono ?_;rintro e _ ⟨rfl,rfl⟩;rw [show (3+1:Int)=4 by decide];go_wp2_with fail;refine (peek_any _ p q _ _ HA6.out).mono ?_;rintro e _ ⟨rfl,rfl⟩;rw [HP.out.2];exact Bf
   ·have q1:decide (v≥nv)=false:=by simpa using hlt
    have q2:decide (nv≤v)=false:=by simpa using hlt
    obtain rfl:k=4:=by omega
    have hb:=HC.out.2.2;clear hlt hm;rw [show Pl.errv 0 = .nilIface from rfl];go_wp2_with fail;refine (peek_any _ p q _ _ HA6.out).mono ?_;rintro e _ ⟨rfl,rfl⟩;rw [HP.out.1];exact Bf
end Go.Proofs.YtofanejchncepaaDoor.Kc
