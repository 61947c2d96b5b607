/- The developers' claim: made, its version; layer 13's known case. -/
import Derived.Test.YthokjbikomjhgaaGreatDoorZKc1
import Derived.Test.YthokjbikomjhgaaGreatDoorVac
import Derived.Test.YthokjbikomjhgaaGreatDoorVad
namespace Go.Proofs.YthokjbikomjhgaaGreatDoor.Kc_u
open Go.RowKit Ar Mx
set_option linter.unusedVariables false
set_option linter.unusedSimpArgs false
def Cm.new (vs t sq:Int):Cm:=⟨vs,3+t,sq,0,0,0,0,0,0⟩
def Cm.ver (y:Cm):Int:=if y.ln=5 then (if y.vs≤y.f0 then 0 else ku y.f4 - 2) else 0
def Cm.err (y:Cm):Int:=if y.ln=5 then (if y.vs≤y.f0 then 15 else 0) else 0
theorem qbf (c:Cf) (t sq:Int) (ht:0≤t∧t≤8) (w:World):Calls Tryz.prog 60 #[c.val,.int .i64 t,.int .i64 sq] w fun e w'=>∃ b,e = .returned (.pointer (some ⟨b,0,none⟩))∧w.heap.size≤b∧CmAt w' b 186 #[] #[] (Cm.new c.v t sq)∧Fr [] w w':=by
 unfold Cf.val
 obtain ⟨c0,c1,c2,c3⟩:=Pl.yp (Go.heap_alloc_new w (.cells #[.int .i64 c.t,.int .i64 c.c,.int .i64 c.wd,.int .i64 c.v] 23))
 have F0:=(Fr.refl [] w).alloc (.cells #[.int .i64 c.t,.int .i64 c.c,.int .i64 c.wd,.int .i64 c.v] 23)
 have hh:=q9 (fun w=>Pl.Q0 t ht.1 ht.2 w)
 clear ht
 go_enter Tryz.func60,Tryz.ntmps60
 go_wp2_with fail
 generalize hw1:(w.alloc (.cells #[.int .i64 c.t,.int .i64 c.c,.int .i64 c.wd,.int .i64 c.v] 23))=w1 at *
 refine qp (by kernel_rfl) ?_
 refine za [] w1 #[true,true,true,true,true,true,false,false] 6 2 rfl ?_
 refine envT_pass [true,true,true,true,true,true,false,false] 0 (n:=14) (listed':=#[true,true,true,true,true,true,false,false]) rfl (by kernel_rfl) (by kernel_rfl) (by kernel_rfl) (by kernel_rfl) (by kernel_rfl) rfl (by kernel_rfl) (fun _ _ d _ _ h=>by cases d <;> exact h) ((Fr.refl _ w1).drew) ?_
 apply qg
 refine ⟨fun wf Ff=>?_,?_⟩
 ·have k3:=qb (Ff.cell c3 (by simp))
  simp only [sel]
  repeat (go_big_quiet_step ((go_at_call 66;exact Calls.in_same (hh.out _))))
  exact wpQuiet_nil rfl
 refine qy (k:=6) rfl (by kernel_rfl) (fun w5 F5=>?_)
 have F1:=F0.trans (((Fr.refl [] w1).drew).trans F5)
 clear c0 c1 c2 c3 hh F0
 go_wp2_with fail
 go_ret
 exact ⟨w5.heap.size,rfl,F1.size,Ob.newAt rfl _ _,F1.alloc _⟩
section
variable {w:World} {b o p q:Nat} {T:TypeId} {pre post:Array Value} {y:Cm} {s:St}
theorem part_bd (a:Int):0≤ku a∧ku a<16777216:=by unfold ku;omega
def PostV (w:World) (v n:Int) (e:Ending) (w':World):Prop:=e = .returned (.tuple #[.int .i64 v,Pl.qct n])∧Fr [] w w'
theorem Vd (h:CmAt w b T pre post y) (ho:pre.size=o):Calls Tryz.prog 64 #[.pointer (some ⟨b,o,none⟩)] w (PostV w y.ver y.err):=by
 have HN:=q9 (qc (none_any h ho) (qc h ho))
 obtain ⟨c0,c1,c2,c3,c4,c5,c6,c7,c8⟩:=cm_cells h ho
 by_cases e5:y.ln=5
 case neg =>
  have g:(y.ln != 5)=true:=by simpa using e5
  have e1:y.ver=0:=by unfold Cm.ver;rw [qd e5]
  have e2:y.err=0:=by unfold Cm.err;rw [qd e5]
  rw [e1,e2]
  clear e5 e1 e2 h ho
  go_enter Tryz.func64,Tryz.ntmps64
  go_wp2
  exact bodyPost_ret (v:=.tuple #[.int .i64 0,.nilIface]) (by simp [results,Tryz.results64,go_sem]) rfl ⟨rfl,Fr.refl _ _⟩
 have g:(y.ln != 5)=false:=by simpa using e5
 by_cases ev:y.vs≤y.f0
 ·have e1:y.ver=0:=by unfold Cm.ver;rw [qf e5,qf ev]
  have e2:y.err=15:=by unfold Cm.err;rw [qf e5,qf ev]
  rw [e1,e2]
  rw [decide_eq_true ev] at HN
  rw [e5] at c3
  clear e5 e1 e2 h ho ev g
  have q0:((5:Int) != 5)=false:=by decide
  go_enter Tryz.func64,Tryz.ntmps64
  go_wp2_with fail
  refine HN.out.1.mono ?_;rintro e w2 ⟨rfl,F2⟩
  go_wp2
  exact bodyPost_ret (v:=.tuple #[.int .i64 0,.iface 184 (.int .i64 15)]) (by simp [results,Tryz.results64,go_sem]) rfl ⟨rfl,F2⟩
 ·have e1:y.ver=ku y.f4 - 2:=by unfold Cm.ver;rw [qf e5,qd ev]
  have e2:y.err=0:=by unfold Cm.err;rw [qf e5,qd ev]
  rw [e1,e2]
  rw [decide_eq_false ev] at HN
  rw [e5] at c3
  clear e5 e1 e2 h ho ev g c0 c1 c2 c4 c5 c6 c7 c8
  have q0:((5:Int) != 5)=false:=by decide
  have HB:=q9 (part_bd y.f4)
  go_enter Tryz.func64,Tryz.ntmps64
  go_wp2_with fail
  refine HN.out.1.mono ?_;rintro e w2 ⟨rfl,F2⟩
  obtain ⟨c0,c1,c2,c3,c4,c5,c6,c7,c8⟩:=cm_cells (Pb.up HN.out.2.1 F2) HN.out.2.2
  clear c0 c1 c2 c4 c5 c6 c7
  go_wp2_with fail
  refine (Word.Xp y.f4 _).mono ?_;rintro e w3 ⟨rfl,rfl⟩
  rw [show y.f4 % 16777216=ku y.f4 from rfl]
  have hw:wrap64 (ku y.f4 - 2)=ku y.f4 - 2:=w64 (by have:=HB.out;omega) (by have:=HB.out;omega)
  generalize ku y.f4=pv at *
  have hb:=HB.out
  go_wp2
  exact bodyPost_ret (v:=.tuple #[.int .i64 (pv - 2),.nilIface]) (by simp [results,Tryz.results64,go_sem,hw]) rfl ⟨rfl,F2⟩
end
def KcIs (w:World) (b:Nat) (y:Cm):Prop:=CmAt w b 186 #[] #[] y
theorem KcIs.up {w w':World} {b:Nat} {y:Cm} (h:KcIs w b y) (f:Fr [] w w'):KcIs w' b y:=Pb.up h f
theorem KcIs.kept {S:List Nat} {w w':World} {b:Nat} {y:Cm} (h:KcIs w b y) (f:Fr S w w') (hb:b∉S):KcIs w' b y:=Pb.kept h f hb
theorem KcIs.lt {w:World} {b:Nat} {y:Cm} (h:KcIs w b y):b<w.heap.size:=Pb.lt h
def Cm.go (y:Cm) (s:St):Cm×St:=if y.ln=5 then (y,s) else (y.step s,y.act s)
def runC:Nat→Cm→St→Cm×St
 | 0,y,s=>(y,s)
 | n+1,y,s=>let r:=runC n y s;r.1.go r.2
theorem behL_bd {y:Cm} (h:0≤y.ln∧y.ln≤4):0≤y.behL∧y.behL≤5:=by
 unfold Cm.behL
 split
 ·omega
 ·rw [w64 (by omega) (by omega)];omega
theorem put_ln (y:Cm) (v:Int):(y.put v).ln=y.ln:=by
 unfold Cm.put
 repeat' split
 all_goals rfl
theorem go_ln {y:Cm} {s:St} (h:0≤y.ln∧y.ln≤5):0≤(y.go s).1.ln∧(y.go s).1.ln≤5:=by
 unfold Cm.go
 by_cases e:y.ln=5
 ·rw [qf e];exact h
 ·rw [qd e]
  exact behL_bd (by rw [put_ln];omega)
theorem run_ln {y:Cm} {s:St} (h:0≤y.ln∧y.ln≤5):∀ n,0≤(runC n y s).1.ln∧(runC n y s).1.ln≤5
 | 0=>h
 | n+1=>go_ln (run_ln h n)
theorem kstep_any {w:World} {b p q:Nat} {y:Cm} {s:St} (hl:0≤y.ln∧y.ln≤5) (t:Word.Tab w) (h:KcIs w b y) (hA:Ar w p q s) (hne:b≠p∧b≠q) (hg:2≠p∧2≠q):Calls Tryz.prog 62 #[.pointer (some ⟨b,0,none⟩),.pointer (some ⟨p,0,none⟩)] w fun e w'=>e = .returned (.bool (decide ((y.go s).1.ln=5)))∧KcIs w' b (y.go s).1∧Ar w' p q (y.go s).2∧Fr [b,p,q] w w':=by
 refine (step_any (o:=0) hl t h rfl hA hne hg).mono ?_
 unfold PostS Cm.go
 rintro e w' hh
 by_cases e5:y.ln=5
 ·rw [qf e5,qf e5] at hh;rw [qf e5];exact hh
 ·rw [qd e5,qd e5] at hh;rw [qd e5];exact hh
end Go.Proofs.YthokjbikomjhgaaGreatDoor.Kc_u
