/- Layer 13's known case. -/
import Derived.Test.YthokjbikomjhgaaGreatDoorZKc2
namespace Go.Proofs.YthokjbikomjhgaaGreatDoor.Kc_u
open Go.RowKit Ar Mx
set_option linter.unusedVariables false
set_option linter.unusedSimpArgs false
set_option maxRecDepth 100000
def s0:St:=Pl.begun 2 4 100
def y0:Cm:=⟨1000,4,3,0,0,0,0,0,0⟩
def y1:Cm:=⟨1,3,1,0,0,0,0,0,0⟩
theorem go5:(runC 5 y0 s0).1.ln=5∧(runC 5 y0 s0).1.ver=0∧(runC 5 y0 s0).1.err=0:=by decide +kernel
theorem go4:∀ k,k<5→(runC k y0 s0).1.ln≠5:=by decide +kernel
theorem pk5:qw ((y1.go (runC 5 y0 s0).2).2).l 1=1∧qw ((y1.go (runC 5 y0 s0).2).2).l 4=50331650:=by decide +kernel
theorem one:(y1.go (runC 5 y0 s0).2).1.ln=5∧(y1.go (runC 5 y0 s0).2).1.err=15∧(y1.go (runC 5 y0 s0).2).1.ver=0:=by decide +kernel
theorem tabLt {w:World} (t:Word.Tab w):2<w.heap.size:=World.block_lt_of_cell? w _ t.1
theorem new1 (w:World):Calls Tryz.prog 60 #[.agg #[.int .i64 2,.int .i64 4,.int .i64 100,.int .i64 1000],.int .i64 1,.int .i64 3] w fun e w'=>∃ b,e = .returned (.pointer (some ⟨b,0,none⟩))∧w.heap.size≤b∧KcIs w' b y0∧Fr [] w w':=qbf ⟨2,4,100,1000⟩ 1 3 (by decide) w
theorem new2 (w:World):Calls Tryz.prog 60 #[.agg #[.int .i64 2,.int .i64 4,.int .i64 100,.int .i64 1],.int .i64 0,.int .i64 1] w fun e w'=>∃ b,e = .returned (.pointer (some ⟨b,0,none⟩))∧w.heap.size≤b∧KcIs w' b y1∧Fr [] w w':=qbf ⟨2,4,100,1⟩ 0 1 (by decide) w
def KcR (W:World) (b p q:Nat) (y:Cm) (s:St) (v:Value) (wr:World):Prop:=∃ k,v = .int .i64 (k:Nat)∧k<5∧KcIs wr b (runC k y s).1∧Ar wr p q (runC k y s).2∧Fr [b,p,q] W wr
set_option maxHeartbeats 3200000 in
theorem known_true (w:World) (t:Word.Tab w):Calls Tryz.prog 59 #[] w fun e w'=>e = .returned (.bool true)∧Fr [] w w':=by
 have isE:=Er.isE
 go_enter Tryz.func59,Tryz.ntmps59
 go_wp2_with fail
 refine (Pl.conf_any 2 4 100 _).mono ?_;rintro e w1 ⟨rfl,F1⟩
 have G:=F1.alloc (.cells #[.int .i64 2,.int .i64 4,.int .i64 100,.int .i64 1000] 23)
 have oc:=Ob.new w1 23 #[.int .i64 2,.int .i64 4,.int .i64 100,.int .i64 1000]
 obtain ⟨c0,c1,c2,c3⟩:=Pl.yp oc
 have hcw:=oc.lt
 have hw1:=F1.size
 clear F1
 go_wp2_with fail
 refine (Pl.make_yes 2 4 100 1000 (by decide) _).mono ?_;rintro e w2 ⟨p,q,rfl,hp,hq,A,F2⟩
 rw [Yg] at hp hq
 replace oc:=oc.up F2
 have hA2:=A.lt
 replace G:=G.trans F2
 have A:Ar w2 p q s0:=A
 clear F2 c0 c1 c2 c3
 generalize hbc:w1.heap.size=bc at *
 obtain ⟨c0,c1,c2,c3⟩:=Pl.yp oc
 have hcl:=oc.lt
 have hG:=G.size
 go_wp2_with fail
 refine (new1 _).mono ?_;rintro e w3 ⟨b,rfl,hb,D,F3⟩
 replace A:=A.kept F3 (by simp) (by simp)
 replace oc:=oc.up F3
 replace G:=G.trans F3
 have hlt:=tabLt t
 have HN:=q9 (show (b≠p∧b≠q)∧(2≠p∧2≠q∧2≠b∧2≠bc)∧(bc≠b∧bc≠p∧bc≠q)∧(w.heap.size≤b∧w.heap.size≤p∧w.heap.size≤q∧w.heap.size≤bc) by omega)
 have HT:=q9 (Gq_u.tab_up t G)
 have HO:=q9 oc
 have HG:=q9 G
 clear F3 c0 c1 c2 c3 t hcw hw1 hp hq hA2 hcl hG hb hlt oc G hbc
 go_wp2_with fail
 go_loopw [5] (KcR w3 b p q y0 s0) (fun v _=>20 - (intOf v).toNat)
 case atStart=>exact ⟨0,rfl,by omega,D,A,Fr.refl _ _⟩
 ·skip
  obtain ⟨k,rfl,hk5,D2,A2,F2⟩:=hrel
  have HS:=q9 (kstep_any (run_ln (y:=y0) (s:=s0) (by decide) k) (Gq_u.tab_kept HT.out F2 (by simp;exact ⟨HN.out.2.1.2.2.1,HN.out.2.1.1,HN.out.2.1.2.1⟩)) D2 A2 HN.out.1 ⟨HN.out.2.1.1,HN.out.2.1.2.1⟩)
  have HF:=q9 F2
  have g1:decide ((k:Int)<9)=true:=by simp;omega
  clear D2 A2 F2
  go_wp2_with fail
  refine HS.out.mono ?_;rintro e w4 ⟨rfl,D3,A3,F3⟩
  have HF4:=q9 (HF.out.trans F3)
  clear HF F3
  by_cases hk:k<4
  ·have g3:decide (((runC k y0 s0).1.go (runC k y0 s0).2).1.ln=5)=false:=by simp;exact go4 (k+1) (by omega)
   go_wp2_with fail
   go_roundw
   case rel=>exact ⟨k+1,by simp,by omega,D3,A3,HF4.out⟩
   case measure=>simp [intOf];omega
  ·obtain rfl:k=4:=by omega
   have g3:decide (((runC 4 y0 s0).1.go (runC 4 y0 s0).2).1.ln=5)=true:=by simp;exact go5.1
   have D4:KcIs w4 b (runC 5 y0 s0).1:=D3
   have A4:Ar w4 p q (runC 5 y0 s0).2:=A3
   have HA:=q9 A4
   have HV:=q9 (Vd (o:=0) D4 rfl)
   rw [go5.2.1,go5.2.2] at HV
   clear D3 A3 HS D4 A4
   go_wp2_with fail
   refine HV.out.mono ?_;rintro e w5 ⟨rfl,F5⟩
   rw [show Pl.qct 0 = .nilIface from rfl]
   have FF:=HF4.out.then F5
   have A5:=HA.out.kept F5 (by simp) (by simp)
   have o5:=HO.out.kept FF (by simp;exact HN.out.2.2.1)
   have t5:=Gq_u.tab_kept HT.out FF (by simp;exact ⟨HN.out.2.1.2.2.1,HN.out.2.1.1,HN.out.2.1.2.1⟩)
   have HG5:=q9 (HG.out.own FF (by simp;exact ⟨HN.out.2.2.2.1,HN.out.2.2.2.2.1,HN.out.2.2.2.2.2.1⟩))
   obtain ⟨c0,c1,c2,c3⟩:=Pl.yp o5
   have z5:=o5.frozen
   have HO5:=q9 o5
   have HA5:=q9 (qc A5 t5)
   clear FF HF4 F5 HV HA A5 t5 o5
   go_wp2_with fail
   have o6:Ob (w5.setCell ⟨bc,3,none⟩ (.int .i64 1)) bc 23 #[.int .i64 2,.int .i64 4,.int .i64 100,.int .i64 1]:=Ob.set HO5.out (i:=3) (.int .i64 1)
   have F6:Fr [bc] w5 (w5.setCell ⟨bc,3,none⟩ (.int .i64 1)):=Fr.setCell (S:=[bc]) (b:=bc) _ (by simp)
   generalize (w5.setCell ⟨bc,3,none⟩ (.int .i64 1))=w6 at *
   have A6:=HA5.out.1.kept F6 (by simp;exact HN.out.2.2.1.2.1.symm) (by simp;exact HN.out.2.2.1.2.2.symm)
   have t6:=Gq_u.tab_kept HA5.out.2 F6 (by simp;exact HN.out.2.1.2.2.2)
   have HG6:=q9 (HG5.out.own F6 (by simp;exact HN.out.2.2.2.2.2.2))
   clear c0 c1 c2 c3 z5 HO5 HG5 HA5 F6
   obtain ⟨c0,c1,c2,c3⟩:=Pl.yp o6
   have hA6:=A6.lt
   have hT6:=tabLt t6
   clear o6
   go_wp2_with fail
   refine (new2 _).mono ?_;rintro e w7 ⟨b2,rfl,hb2,D7,F7⟩
   have A7:=A6.kept F7 (by simp) (by simp)
   have t7:=Gq_u.tab_up t6 F7
   have HN2:=q9 (show (b2≠p∧b2≠q) by omega)
   have hb3:w.heap.size≤b2:=qh HG6.out.size hb2
   have HG7:=q9 (qc (HG6.out.trans F7) hb3)
   have HS:=q9 (kstep_any (y:=y1) (by decide) t7 D7 A7 HN2.out ⟨HN.out.2.1.1,HN.out.2.1.2.1⟩)
   rw [show decide ((y1.go (runC 5 y0 s0).2).1.ln=5)=true from decide_eq_true one.1] at HS
   clear c0 c1 c2 c3 hA6 hT6 A6 t6 HG6 F7 D7 A7 t7 hb2 hb3
   go_wp2_with fail
   refine HS.out.mono ?_;rintro e w8 ⟨rfl,D8,A8,F8⟩
   have HV:=q9 (Vd (o:=0) D8 rfl)
   rw [one.2.1,one.2.2] at HV
   have HA8:=q9 (qc A8 F8)
   clear D8 A8 F8 HS
   go_wp2_with fail
   refine HV.out.mono ?_;rintro e w9 ⟨rfl,F9⟩
   rw [show Pl.qct 15 = .iface 184 (.int .i64 15) from rfl]
   have HA9:=q9 (HA8.out.1.kept F9 (by simp) (by simp))
   have HF9:=q9 (HG7.out.1.own (HA8.out.2.then F9) (by have:=HG7.out.2;have:=HN.out.2.2.2;simp;omega))
   clear F9 HA8 HV
   go_wp2_with fail
   refine (vk _ p q _ _ HA9.out).mono ?_;rintro e _ ⟨rfl,rfl⟩
   rw [pk5.1]
   go_wp2_with fail
   refine (Pl.Q0 1 (by decide) (by decide) _).mono ?_;rintro e _ ⟨rfl,rfl⟩
   rw [show (3+1:Int)=4 by decide]
   go_wp2_with fail
   refine (vk _ p q _ _ HA9.out).mono ?_;rintro e _ ⟨rfl,rfl⟩
   rw [pk5.2]
   go_wp2_with fail
   refine (Er.is_same 15 _).mono ?_;rintro e w10 ⟨rfl,rfl⟩
   go_wp2
   go_ret
   exact ⟨rfl,HF9.out⟩
end Go.Proofs.YthokjbikomjhgaaGreatDoor.Kc_u
