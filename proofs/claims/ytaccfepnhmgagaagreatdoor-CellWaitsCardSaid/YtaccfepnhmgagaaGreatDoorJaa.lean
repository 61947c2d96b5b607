/- Parts. -/
import Derived.Test.YtaccfepnhmgagaaGreatDoorVbd
import Derived.Test.YtaccfepnhmgagaaGreatDoorVac
import Derived.Test.YtaccfepnhmgagaaGreatDoorVaa
import Derived.RegionTactic
import Derived.Deep.RegionHeld3
import Derived.Deep.QuietTactic
import Derived.Test.YtaccfepnhmgagaaGreatDoorVad
import Derived.Test.YtaccfepnhmgagaaGreatDoorVbn
set_option linter.unusedVariables false
set_option linter.unusedSimpArgs false
set_option maxRecDepth 100000
namespace Go.Proofs.YtaccfepnhmgagaaGreatDoor
theorem A0i {p:Prop} (h:p:=by first | cases e | (simp only at e;rw [hp] at e;cases e) | (rw [hp] at e;cases e)):p:=h
theorem A0n {p:Prop} (h:p:=by simp;exact ⟨HN.out.2.1.2.2.1,HN.out.2.1.1,HN.out.2.1.2.1⟩):p:=h
theorem A0o {p:Prop} (h:p:=by first | (simp only at e;rw [em] at e;cases e) | cases e):p:=h
theorem A0q {p:Prop} (h:p:=by have:=HFF.out.p0;have:=HFF.out.v0;omega):p:=h
theorem A0r {p:Prop} (h:p:=by simp [results,Tryz.results20,go_sem]):p:=h
theorem A0j {p:Prop} (h:p:=by simp;exact HN.out.2.2.2.2):p:=h
theorem A0p {p:Prop} (h:p:=by simp;exact HN.out.1.2):p:=h
theorem A0t {p:Prop} (h:p:=by have:=HW.out.1;omega):p:=h
theorem A0m {p:Prop} (h:p:=by simp;exact HNE.out):p:=h
theorem A0s {p:Prop} (h:p:=by unfold xn;omega):p:=h
theorem A0g {p:Prop} (h:p:=by kernel_rfl):p:=h
theorem A0l {p:Prop} (h:p:=by cases e):p:=h
theorem A0k {p:Prop} (h:p:=by decide):p:=h
theorem A0f {p:Prop} (h:p:=by omega):p:=h
theorem A0h {p:Prop} (h:p:=by simp):p:=h
theorem Po {p:Prop} (h:p:=by
  rw [ea,ep];generalize hnx:y.nx s=nx at *;have HX:=q9 en;clear ea ep en hnx;obtain ⟨c0,c1,c2,c3,c4,c5,c6,c7⟩:=cx_cells h ho;have HH:=q9 (qc h (qc hl ho));have HA:=q9 hA;have HT:=q9 (qc t hg);have HNE:=q9 hne;have k0:=qb c0;have k5:=qb c5;clear hl h hA t hg hne c0 c1 c2 c3 c4 c5 c6 c7 ho;go_enter Tryz.func48,Tryz.ntmps48;go_wp2_with fail;refine Ru A0g A0g ?_;repeat (go_big_quiet_step ((go_at_call 42;exact Calls.in_same (stateQ_any _ _ _))))
  refine wpQuiet_nil ?_;intro w1 F1;clear k0 k5;rw [show Qp y.ch y.f1=y.sa from rfl];have h1:CxAt w1 b T pre post y:=Pb.up HH.out.1 F1;have A1:=HA.out.kept F1 A0h A0h;have HF:=q9 F1;have z1:=h1.frozen;obtain ⟨c0,c1,c2,c3,c4,c5,c6,c7⟩:=cx_cells h1 HH.out.2.2;rw [HH.out.2.1] at c4;have HH1:=q9 h1;clear h1;go_wp2_with fail;refine (Ar.jf _ p q s _ _ A1).mono ?_;rintro e w4 ⟨rfl,A4,F4⟩;have h4:CxAt w4 b T pre post y:=Pb.kept HH1.out F4 A0m;have D4:Fr [b,p,q] w w4:=(HF.out.mono A0h).trans (F4.mono A0h);obtain ⟨c0,c1,c2,c3,c4,c5,c6,c7⟩:=cx_cells h4 HH.out.2.2;rw [HH.out.2.1] at c4;have z4:=h4.frozen;have HP:=q9 (qc h4 (qc A4 D4));clear h4 A4 D4 F4 A1;exact A0d
 ):p:=h
theorem Pp {p:Prop} (h:p:=by
  have h4:CxAt w4 b T pre post y:=Pb.kept HH1.out F4 A0m;have D4:Fr [b,p,q] w w4:=(HF.out.mono A0h).trans (F4.mono A0h);obtain ⟨c0,c1,c2,c3,c4,c5,c6,c7⟩:=cx_cells h4 HH.out.2.2;rw [HH.out.2.1] at c4;have z4:=h4.frozen;have HP:=q9 (qc h4 (qc A4 D4));clear h4 A4 D4 F4 A1 z1 z4;clear c0 c1 c2 c3 c4 c5 c6 c7;go_wp2_with fail;refine (beh_any HP.out.1 HH.out.2.2).mono ?_;rintro e w7 ⟨rfl,F7⟩;generalize hbv:y.behL _=bv at *;have HB:=q9 hbv;clear hbv
  have hfin:bv=nx:=by
   rw [HX.out,← HB.out];unfold Cx_u.behL;rw [HH.out.2.1]
   first
    | rw [show wrap64 ((0:Int)+1)=1 from w64 (a:=0+1) A0k A0k]
    | rw [show wrap64 ((4:Int)+1)=5 from w64 (a:=4+1) A0k A0k]
   try simp only [beq_iff_eq]
  subst hfin;go_wp2;go_ret;exact ⟨rfl,Pb.up HP.out.1 F7,HP.out.2.1.kept F7 A0h A0h,HP.out.2.2.then F7⟩
 ):p:=h
theorem Pq {p:Prop} (h:p:=by
  have hc:qw (y.go s).2.l 1=qw s.l 1:=by rw [e2];exact poke1 A0f
  refine .inr (.inr (.inl ⟨by rw [e1];simp,fun _=>ea,?_⟩));rw [e1];exact ⟨ch,rm,rfl,by omega,by rw [e2,x7];exact hl,by omega,by omega,f7,fun _=>hf,fun _=>p0 A0f,fun h=>by omega,fun h=>by omega⟩
 ):p:=h
theorem Ps {p:Prop} (h:p:=by
  exact HP.out.2.1.kept (Fr.setCell (S:=[b]) (b:=b) _ A0h) (by simp;exact HNE.out.1.symm) (by simp;exact HNE.out.2.symm)
 ):p:=h
theorem Pu {p:Prop} (h:p:=by
  simp only [sel];repeat (go_big_quiet_step (fail))
  exact wpQuiet_nil rfl
 ):p:=h
theorem Pv {p:Prop} (h:p:=by
  go_enter Tryz.func21,Tryz.ntmps21;go_wp2_with fail;go_ret;exact ⟨rfl,Fr.refl _ _⟩
 ):p:=h
theorem Pw {p:Prop} (h:p:=by
  go_wp2_with fail;go_ret;exact ⟨rfl,Fr.refl _ _⟩
 ):p:=h
theorem Px {p:Prop} (h:p:=by
  simp only;repeat' split
  all_goals first | exact ln_load h _ | exact ln_store h _ _ | exact ln_add h _ _ | exact ln_swap h _ _ _
 ):p:=h
theorem Py {p:Prop} (h:p:=by
  rw [(Pl.Vx (wd:=c.wd) hc.t1 hc.t8 (by have:=hc.c2;have:=hc.t1;omega) hc.top).1];have:=hc.top;have:=hc.t1;have:=hc.c2;omega
 ):p:=h
theorem Pz {p:Prop} (h:p:=by
  refine vst_swap h (fun _=>?_);rw [hw];exact vst_fld hc hO h hx.K A0f sz7 (fun _ _ _=>state_le g0 g1)
 ):p:=h
theorem A00 {p:Prop} (h:p:=by
  simp only;repeat' split
  all_goals first | exact ln_load h _ | exact ln_store h _ _ | exact ln_swap h _ _ _
 ):p:=h
theorem A01 {p:Prop} (h:p:=by
  unfold Mc.notes;simp only;split
  ·split
   ·simp only;split <;> rfl
   ·split <;> rfl
  ·split <;> rfl
 ):p:=h
theorem A02 {p:Prop} (h:p:=by
  exact ⟨hv.d,kx,fun z e=>(by first | exact km z e | (simp only at e;rw [em] at e;cases e) | cases e)⟩
 ):p:=h
theorem A03 {p:Prop} (h:p:=by
  unfold posts at h;cases h1:(a.kind == 3) <;> cases h2:a.ok <;> cases h3:(a.new == 1) <;> simp_all
 ):p:=h
theorem A04 {p:Prop} (h:p:=by
  exact .inl ⟨by rw [e1],p0 A0f,by rw [e1];exact f7,ea⟩
 ):p:=h
theorem A05 {p:Prop} (h:p:=by
  have:=hc.t1;rw [Qx hc A0f hp];exact A0e
 ):p:=h
theorem A06 {p:Prop} (h:p:=by
  simp only;repeat' split
  all_goals first | exact ln_load h _ | exact ln_swap h _ _ _
 ):p:=h
theorem A07 {p:Prop} (h:p:=by
  exact wd_fld hc ha A0f A0f A0f (fun _ _ _=>by omega)
 ):p:=h
theorem A08 {p:Prop} (h:p:=by
  exact vst_fld hc hO h hx.K A0f A0f (fun _ _ _=>by omega)
 ):p:=h
theorem A09 {p:Prop} (h:p:=by
  exact ⟨newp _ _ _ _,fun y e=>A0l,fun y e=>A0l⟩
 ):p:=h
theorem A0a {p:Prop} (h:p:=by
  exact HP.out.2.2.setCell' (b:=b) _ A0h
 ):p:=h
theorem A0b {p:Prop} (h:p:=by
  rw [e];exact ⟨vst_same h,hv⟩
 ):p:=h
theorem A0c {p:Prop} (h:p:=by
  rw [ex];exact ⟨vst_same h,bd_on_V hv.l hv.g hv.w⟩
 ):p:=h
theorem A0d {p:Prop} (h:p:=by
  go_wp2;go_ret;exact ⟨by rw [HX.out];rfl,HP.out.1,HP.out.2.1,HP.out.2.2⟩
 ):p:=h
theorem A0e {p:Prop} (h:p:=by
  unfold Pl.Qi;(repeat' split) <;> first | rfl | omega
 ):p:=h
end Go.Proofs.YtaccfepnhmgagaaGreatDoor
namespace Go.Proofs.YtaccfepnhmgagaaGreatDoor.Ar
end Go.Proofs.YtaccfepnhmgagaaGreatDoor.Ar
namespace Go.Proofs.YtaccfepnhmgagaaGreatDoor
end Go.Proofs.YtaccfepnhmgagaaGreatDoor
namespace Go.Proofs.YtaccfepnhmgagaaGreatDoor.Mx
end Go.Proofs.YtaccfepnhmgagaaGreatDoor.Mx
namespace Go.Proofs.YtaccfepnhmgagaaGreatDoor
end Go.Proofs.YtaccfepnhmgagaaGreatDoor
namespace Go.Proofs.YtaccfepnhmgagaaGreatDoor.Ref
end Go.Proofs.YtaccfepnhmgagaaGreatDoor.Ref
namespace Go.Proofs.YtaccfepnhmgagaaGreatDoor
end Go.Proofs.YtaccfepnhmgagaaGreatDoor
namespace Go.Proofs.YtaccfepnhmgagaaGreatDoor.Rf
end Go.Proofs.YtaccfepnhmgagaaGreatDoor.Rf
namespace Go.Proofs.YtaccfepnhmgagaaGreatDoor
end Go.Proofs.YtaccfepnhmgagaaGreatDoor
namespace Go.Proofs.YtaccfepnhmgagaaGreatDoor.Ch
end Go.Proofs.YtaccfepnhmgagaaGreatDoor.Ch
namespace Go.Proofs.YtaccfepnhmgagaaGreatDoor
end Go.Proofs.YtaccfepnhmgagaaGreatDoor
namespace Go.Proofs.YtaccfepnhmgagaaGreatDoor.Op10
end Go.Proofs.YtaccfepnhmgagaaGreatDoor.Op10
namespace Go.Proofs.YtaccfepnhmgagaaGreatDoor
end Go.Proofs.YtaccfepnhmgagaaGreatDoor
namespace Go.Proofs.YtaccfepnhmgagaaGreatDoor.Og
open Go.RowKit Go.Maps Go.Proofs.YtaccfepnhmgagaaGreatDoor.Ar
set_option linter.unusedVariables false
set_option linter.unusedSimpArgs false
def scc (r:Nat):Array Value:=#[.int .i64 2,.int .i64 4,.int .i64 200,.int .i64 1000,.slice (some ⟨r,0,none⟩) 1 1,.slice none 0 0,.slice none 0 0]
structure KB (w v:World) (r p q e d:Nat):Prop where
 g:Fr [] w v
 s:Scr v (sc r) 2 4 200 1000 [[(1,3,9,0)]] [] []
 t:Scr v (sc e) 2 4 200 1000 [[(3,0,1,0)]] [] []
 a:v.heap[p]? = some (.cells (scc r) 27 (0,0))
 b:v.heap[d]? = some (.cells (scc e) 27 (0,0))
 o:v.heap[q]? = some (.cells #[.int .i64 1,.int .i64 3,.int .i64 9,.int .i64 0] 123 (0,0))
theorem KB.up {w v v':World} {r p q e d:Nat} (h:KB w v r p q e d) (f:Fr [] v v'):KB w v' r p q e d :=
 ⟨h.g.trans f,h.s.up f,h.t.up f,qbp f h.a,qbp f h.b,qbp f h.o⟩
end Go.Proofs.YtaccfepnhmgagaaGreatDoor.Og
namespace Go.Proofs.YtaccfepnhmgagaaGreatDoor.Vw
open Go.RowKit Go.Proofs.YtaccfepnhmgagaaGreatDoor.Ar Go.Proofs.YtaccfepnhmgagaaGreatDoor.Mx
set_option linter.unusedVariables false
set_option linter.unusedSimpArgs false
def chV (h:Hd) (lv:Value):Value:=.agg #[.int .i64 h.at_,.int .i64 h.mn,.int .i64 h.ct,.int .i64 h.nx,.int .i64 h.ld,.int .i64 h.mt,.int .i64 h.rp,.int .i64 h.st,lv]
def ChIs (w:World) (v:Value) (h:Hd) (cs:List Ce):Prop:=∃ lv,v=chV h lv∧Sq fC w lv cs
theorem ChIs.up {w w':World} {v:Value} {h:Hd} {cs:List Ce} (k:ChIs w v h cs) (f:Fr [] w w'):ChIs w' v h cs:=by obtain ⟨lv,rfl,s⟩:=k;exact ⟨lv,rfl,s.up f⟩
theorem qal (s:Int) (w:World):Calls Tryz.prog 55 #[.int .i64 s] w fun e w'=>e = .returned (.int .i64 (verV s))∧w=w':=by
 by_cases c:s<3
 all_goals
  go_enter Tryz.func55,Tryz.ntmps55
  go_wp2
  go_ret
  exact q0p (by unfold verV;first | (rw [qf A0f];done) | (rw [qd A0f];done))
end Go.Proofs.YtaccfepnhmgagaaGreatDoor.Vw
namespace Go.Proofs.YtaccfepnhmgagaaGreatDoor.Mx
open Go.RowKit Go.Proofs.YtaccfepnhmgagaaGreatDoor.Ar Go.Proofs.YtaccfepnhmgagaaGreatDoor.Vw
set_option linter.unusedVariables false
set_option linter.unusedSimpArgs false
def Chs.next (x:Chs) (n:Int):Chs:=⟨{ x.h with nx:=n },x.s⟩
end Go.Proofs.YtaccfepnhmgagaaGreatDoor.Mx
namespace Go.Proofs.YtaccfepnhmgagaaGreatDoor.Mp
open Go.RowKit Go.Proofs.YtaccfepnhmgagaaGreatDoor.Ar
set_option linter.unusedVariables false
set_option linter.unusedSimpArgs false
def PairRow (w:World) (v:Value) (ps:List (Int×Int)):Prop:=∃ (a:Option Addr) (cap:Nat),v = .slice a ps.length cap∧ps.length≤maxLen ∧
 (ps.length=0∨∃ b off,a=some ⟨b,off,none⟩∧b<w.heap.size∧∀ i,i<ps.length→w.cell? ⟨b,off+i * 2,none⟩=some (.int .i64 (ps.getD i (0,0)).1)∧w.cell? ⟨b,off+i * 2+1,none⟩=some (.int .i64 (ps.getD i (0,0)).2))
theorem cellUp {w w':World} (f:Fr [] w w') {b i:Nat} {v:Value} (h:w.cell? ⟨b,i,none⟩=some v):w'.cell? ⟨b,i,none⟩=some v:=f.cell h A0h
theorem PairRow.up {w w':World} {v:Value} {ps:List (Int×Int)} (h:PairRow w v ps) (f:Fr [] w w'):PairRow w' v ps:=by
 obtain ⟨a,cap,h1,h2,h4⟩:=h;refine ⟨a,cap,h1,h2,?_⟩;rcases h4 with h | ⟨b,off,h5,h6,h7⟩
 ·exact .inl h
 ·refine .inr ⟨b,off,h5,qj h6 f.size,fun i hi=>?_⟩;obtain ⟨c0,c1⟩:=h7 i hi;exact ⟨cellUp f c0,cellUp f c1⟩
theorem PairRow.kept {S:List Nat} {w w':World} {v:Value} {ps:List (Int×Int)} (h:PairRow w v ps) (f:Fr S w w') (hS:∀ g,g∈v.ownBlock.toList→g∉S):PairRow w' v ps:=by
 obtain ⟨a,cap,rfl,h2,h4⟩:=h;refine ⟨a,cap,rfl,h2,?_⟩;rcases h4 with h | ⟨b,off,rfl,h6,h7⟩
 ·exact .inl h
 ·have hb:b∉S:=hS b (by simp [Value.ownBlock]);refine .inr ⟨b,off,rfl,qj h6 f.size,fun i hi=>?_⟩;obtain ⟨c0,c1⟩:=h7 i hi;exact ⟨f.cell c0 hb,f.cell c1 hb⟩
end Go.Proofs.YtaccfepnhmgagaaGreatDoor.Mp
namespace Go.Proofs.YtaccfepnhmgagaaGreatDoor.Gq_u
open Go.RowKit Go.Proofs.YtaccfepnhmgagaaGreatDoor.Ar Go.Proofs.YtaccfepnhmgagaaGreatDoor.Mx
set_option linter.unusedVariables false
set_option linter.unusedSimpArgs false
theorem tab_kept {S:List Nat} {w w':World} (t:Word.Tab w) (f:Fr S w w') (h:1∉S):Word.Tab w':=by obtain ⟨t0,t1,t2,t3,t4,t5,t6,t7,t8,t9,t10,t11⟩:=t;exact ⟨f.cell t0 h,f.cell t1 h,f.cell t2 h,f.cell t3 h,f.cell t4 h,f.cell t5 h,f.cell t6 h,f.cell t7 h,f.cell t8 h,f.cell t9 h,f.cell t10 h,f.cell t11 h⟩
theorem tab_up {w w':World} (t:Word.Tab w) (f:Fr [] w w'):Word.Tab w':=tab_kept t f A0h
theorem tab_lt {w:World} (t:Word.Tab w):1<w.heap.size:=World.block_lt_of_cell? w _ t.1
theorem fr_dr {w w':World} (h:Word.Dr w w'):Fr [] w w':=by obtain ⟨m,rfl⟩:=h;exact (Fr.refl [] w).drewN m
theorem stateI_eq (v:Int):Word.qdy v=yc v:=by unfold Word.qdy Word.Q5 yc hd;split <;> split <;> omega
theorem state9 (v:Int) (w:World) (t:Word.Tab w):Calls Tryz.prog 85 #[.int .i64 v] w fun e w'=>e = .returned (.int .i64 (yc v))∧Fr [] w w' :=
 (Word.Qt v w t).mono fun e w' ⟨h,d⟩=>⟨by rw [h,stateI_eq],fr_dr d⟩
end Go.Proofs.YtaccfepnhmgagaaGreatDoor.Gq_u
namespace Go.Proofs.YtaccfepnhmgagaaGreatDoor.Cc_u
open Go.RowKit Go.Proofs.YtaccfepnhmgagaaGreatDoor.Ar Go.Proofs.YtaccfepnhmgagaaGreatDoor.Mx
set_option linter.unusedVariables false
set_option linter.unusedSimpArgs false
theorem stateQ_any (a i:Int) (w:World):Calls Tryz.prog 42 #[.int .i64 a,.int .i64 i] w fun e w'=>e = .returned (.int .i64 (Qp a i))∧w=w':=by go_enter Tryz.func42,Tryz.ntmps42;go_wp2;go_ret;exact Yi (by unfold Qp;first | rw [w64w] | (simp only [w64l,w64r,w64i,w64w]))
structure Cx_u where
 ch:Int
 ky:Int
 dt:Int
 rm:Int
 ln:Int
 f0:Int
 f1:Int
 f2:Int
 f3:Int
 f4:Int
 f5:Int
 f6:Int
 f7:Int
def Cx_u.cells (y:Cx_u):Array Value:=#[.int .i64 y.ch,.int .i64 y.ky,.int .i64 y.dt,.int .i64 y.rm,.int .i64 y.ln,.int .i64 y.f0,.int .i64 y.f1,.int .i64 y.f2,.int .i64 y.f3,.int .i64 y.f4,.int .i64 y.f5,.int .i64 y.f6,.int .i64 y.f7]
def CxAt (w:World) (b:Nat) (T:TypeId) (pre post:Array Value) (y:Cx_u):Prop:=Pb w b T pre post y.cells
def Cx_u.sa (y:Cx_u):Int:=Qp y.ch y.f1
def Cx_u.plc (y:Cx_u):Int:=if y.f1<0 then -1 else if y.rm≤y.f1 then -1 else y.f1
def Cx_u.act (y:Cx_u) (s:St):St:=if y.ln=0 then s.load (wrap64 (y.ch+6)) else if y.ln=1 then s.add (wrap64 (y.ch+1)) 1 else if y.ln=2 then s.store (wrap64 (y.sa+1)) y.ky else if y.ln=3 then s.store (wrap64 (y.sa+2)) y.dt else if y.ln=4 then s.swap y.sa 0 1 else if y.ln=5 then s.load 1 else if y.ln=6 then s.swap y.sa 1 (yc y.f5) else s.load y.sa
def Cx_u.put (y:Cx_u) (s:St):Cx_u:=if y.ln=1 then { y with f1:=qw s.l (wrap64 (y.ch+1)) } else if y.ln=5 then { y with f5:=qw s.l 1 } else if y.ln=7 then { y with f7:=qw s.l y.sa } else y
def Cx_u.goes (y:Cx_u) (s:St):Bool:=if y.ln=0 then decide (qw s.l (wrap64 (y.ch+6))=0) else if y.ln=1 then decide ((y.put s).plc ≠ -1) else if y.ln=4 then s.can y.sa 0 else true
def Cx_u.nx (y:Cx_u) (s:St):Int:=if y.goes s=true then y.ln+1 else 8
def Cx_u.step (y:Cx_u) (s:St):Cx_u:={ y.put s with ln:=y.nx s }
section
variable {w:World} {b o p q:Nat} {T:TypeId} {pre post:Array Value} {y:Cx_u} {s:St}
theorem cx_cells (h:CxAt w b T pre post y) (ho:pre.size=o):w.cell? ⟨b,o,none⟩=some (.int .i64 y.ch)∧w.cell? ⟨b,o+1,none⟩=some (.int .i64 y.ky)∧w.cell? ⟨b,o+2,none⟩=some (.int .i64 y.dt)∧w.cell? ⟨b,o+3,none⟩=some (.int .i64 y.rm)∧w.cell? ⟨b,o+4,none⟩=some (.int .i64 y.ln)∧w.cell? ⟨b,o+5+1,none⟩=some (.int .i64 y.f1)∧w.cell? ⟨b,o+5+5,none⟩=some (.int .i64 y.f5)∧w.cell? ⟨b,o+5+7,none⟩=some (.int .i64 y.f7) :=
 ⟨h.cell (i:=0) ho rfl,h.cell (i:=1) ho rfl,h.cell (i:=2) ho rfl,h.cell (i:=3) ho rfl,h.cell (i:=4) ho rfl,h.cell (i:=6) ho rfl,h.cell (i:=10) ho rfl,h.cell (i:=12) ho rfl⟩
theorem plc_any (h:CxAt w b T pre post y) (ho:pre.size=o):Calls Tryz.prog 21 #[.pointer (some ⟨b,o,none⟩)] w fun e w'=>e = .returned (.int .i64 y.plc)∧Fr [] w w':=by
 obtain ⟨-,-,-,c3,-,c5,-⟩:=cx_cells h ho;clear h;unfold Cx_u.plc;by_cases e1:y.f1<0
 ·have g1:decide (y.f1<0)=true:=by simpa using e1
  rw [qf e1];exact Pv
 ·have g1:decide (y.f1<0)=false:=by simpa using e1
  rw [qd e1];by_cases e2:y.rm≤y.f1
  ·have g2:decide (y.rm≤y.f1)=true:=by simpa using e2
   rw [qf e2];exact Pv
  ·have g2:decide (y.rm≤y.f1)=false:=by simpa using e2
   rw [qd e2];exact Pv
def Cx_u.behL (y:Cx_u) (g:Bool):Int:=if g=true then wrap64 (y.ln+1) else 8
theorem beh_any {g:Bool} (h:CxAt w b T pre post y) (ho:pre.size=o):Calls Tryz.prog 81 #[.pointer (some ⟨b,o,none⟩),.bool g] w fun e w'=>e = .returned (.int .i64 (y.behL g))∧Fr [] w w':=by
 obtain ⟨-,-,-,-,c4,-⟩:=cx_cells h ho;clear h;unfold Cx_u.behL;cases g
 ·rw [qd A0k];go_enter Tryz.func81,Tryz.ntmps81;exact Pw
 ·rw [qf rfl];go_enter Tryz.func81,Tryz.ntmps81;exact Pw
def PostA (w:World) (b p q:Nat) (T:TypeId) (pre post:Array Value) (y:Cx_u) (s:St) (e:Ending) (w':World):Prop:=e = .returned (.int .i64 (y.nx s))∧CxAt w' b T pre post (y.put s)∧Ar w' p q (y.act s)∧Fr [b,p,q] w w'
set_option maxHeartbeats 1600000 in
set_option maxRecDepth 100000 in
theorem acc0 (hl:y.ln=0) (t:Word.Tab w) (h:CxAt w b T pre post y) (ho:pre.size=o) (hA:Ar w p q s) (hne:b≠p∧b≠q) (hg:1≠p∧1≠q∧1≠b):Calls Tryz.prog 48 #[.pointer (some ⟨b,o,none⟩),.pointer (some ⟨p,0,none⟩)] w (PostA w b p q T pre post y s):=by
 unfold PostA;have ea:y.act s=s.load (wrap64 (y.ch+6)):=by unfold Cx_u.act;simp [hl]
 have ep:y.put s=y:=by unfold Cx_u.put;simp [hl]
 have en:y.nx s=if qw s.l (wrap64 (y.ch+6))=0 then 1 else 8:=by unfold Cx_u.nx Cx_u.goes;simp [hl,ep]
 rw [ea,ep];generalize hnx:y.nx s=nx at *;have HX:=q9 en;clear ea ep en hnx;obtain ⟨c0,c1,c2,c3,c4,c5,c6,c7⟩:=cx_cells h ho;have HH:=q9 (qc h (qc hl ho));have HA:=q9 hA;have HT:=q9 (qc t hg);have HNE:=q9 hne;have k0:=qb c0;have k5:=qb c5;clear hl h hA t hg hne c0 c1 c2 c3 c4 c5 c6 c7 ho;go_enter Tryz.func48,Tryz.ntmps48;go_wp2_with fail;refine Ru A0g A0g ?_;repeat (go_big_quiet_step ((go_at_call 42;exact Calls.in_same (stateQ_any _ _ _))))
 refine wpQuiet_nil ?_;intro w1 F1;clear k0 k5;rw [show Qp y.ch y.f1=y.sa from rfl];have h1:CxAt w1 b T pre post y:=Pb.up HH.out.1 F1;have A1:=HA.out.kept F1 A0h A0h;have HF:=q9 F1;have z1:=h1.frozen;obtain ⟨c0,c1,c2,c3,c4,c5,c6,c7⟩:=cx_cells h1 HH.out.2.2;rw [HH.out.2.1] at c4;have HH1:=q9 h1;clear h1;go_wp2_with fail;refine (Ar.zl _ p q s _ A1).mono ?_;rintro e w4 ⟨rfl,A4,F4⟩;exact Pp
set_option maxHeartbeats 1600000 in
set_option maxRecDepth 100000 in
theorem acc1 (hl:y.ln=1) (t:Word.Tab w) (h:CxAt w b T pre post y) (ho:pre.size=o) (hA:Ar w p q s) (hne:b≠p∧b≠q) (hg:1≠p∧1≠q∧1≠b):Calls Tryz.prog 48 #[.pointer (some ⟨b,o,none⟩),.pointer (some ⟨p,0,none⟩)] w (PostA w b p q T pre post y s):=by
 unfold PostA;have ea:y.act s=s.add (wrap64 (y.ch+1)) 1:=by unfold Cx_u.act;simp [hl]
 have ep:y.put s = { y with f1:=qw s.l (wrap64 (y.ch+1)) }:=by unfold Cx_u.put;simp [hl]
 have en:y.nx s=if ({ y with f1:=qw s.l (wrap64 (y.ch+1)) }:Cx_u).plc ≠ -1 then 2 else 8:=by unfold Cx_u.nx Cx_u.goes;simp [hl,ep]
 rw [ea,ep];generalize hnx:y.nx s=nx at *;have HX:=q9 en;clear ea ep en hnx;obtain ⟨c0,c1,c2,c3,c4,c5,c6,c7⟩:=cx_cells h ho;have HH:=q9 (qc h (qc hl ho));have HA:=q9 hA;have HT:=q9 (qc t hg);have HNE:=q9 hne;have k0:=qb c0;have k5:=qb c5;clear hl h hA t hg hne c0 c1 c2 c3 c4 c5 c6 c7 ho;go_enter Tryz.func48,Tryz.ntmps48;go_wp2_with fail;refine Ru A0g A0g ?_;repeat (go_big_quiet_step ((go_at_call 42;exact Calls.in_same (stateQ_any _ _ _))))
 refine wpQuiet_nil ?_;intro w1 F1;clear k0 k5;rw [show Qp y.ch y.f1=y.sa from rfl];have h1:CxAt w1 b T pre post y:=Pb.up HH.out.1 F1;have A1:=HA.out.kept F1 A0h A0h;have HF:=q9 F1;have z1:=h1.frozen;obtain ⟨c0,c1,c2,c3,c4,c5,c6,c7⟩:=cx_cells h1 HH.out.2.2;rw [HH.out.2.1] at c4;have HH1:=q9 h1;clear h1;generalize hv:qw s.l (wrap64 (y.ch+1))=v at *;have HV:=q9 hv;clear hv;go_wp2_with fail;refine qp A0g ?_;refine za [p,q] w1 #[true,true,true,true,true,true,true,true,true,true,true,false] 11 1 rfl ?_;refine envT_pass [true,true,true,true,true,true,true,false,true,true,false,false] 2 (n:=110) (listed':=#[true,true,true,true,true,true,true,false,true,true,false,false]) rfl A0g A0g A0g A0g A0g rfl A0g (fun _ _ d _ _ h=>by cases d <;> exact h) ((Fr.refl _ w1).drew) ?_;apply qg;refine ⟨fun wf Ff=>?_,?_⟩
 ·have k0:=qb (Ff.cell c0 A0m);exact Pu
 refine q87 7 A0g rfl rfl (fun w3 F3=>?_);have D3:=(Fr.refl [] w1).drew.trans F3;have A3:=A1.kept D3 A0h A0h;clear F3 A1 z1 c0 c1 c2 c3 c4 c5 c6 c7;go_wp2_with fail;refine (Ar.Ko _ p q s _ _ A3).mono ?_;rintro e w4 ⟨rfl,A4,F4⟩;rw [HV.out];go_wp2_with fail;refine ql ⟨(D3.mono A0h).trans F4,?_⟩;refine q87 10 A0g rfl rfl (fun w4' F4'=>?_);replace A4:=A4.kept F4' A0h A0h;replace F4:=F4.then F4';clear F4';go_wp2_with fail;refine ql ⟨(D3.mono A0h).trans F4,?_⟩;refine qy (k:=11) rfl A0g (fun w5 F5=>?_);replace F4:Fr [p,q] w1 w5:=((D3.mono A0h).trans F4).then F5;replace A4:=A4.kept F5 A0h A0h;clear D3 F5 A3;have h4:CxAt w5 b T pre post y:=Pb.kept HH1.out F4 A0m;have D4:Fr [b,p,q] w w5:=(HF.out.mono A0h).trans (F4.mono A0h);clear F4;have HP:=q9 (qc h4 (qc A4 D4));obtain ⟨c0,c1,c2,c3,c4,c5,c6,c7⟩:=cx_cells h4 HH.out.2.2;rw [HH.out.2.1] at c4;have z4:=h4.frozen;clear h4 A4 D4;go_wp2_with fail;have h6:CxAt (w5.setCell ⟨b,o+5+1,none⟩ (.int .i64 v)) b T pre post { y with f1:=v }:=Pb.set HP.out.1 HH.out.2.2 (i:=6) (by show 6<13;omega) (.int .i64 v);have A6:Ar (w5.setCell ⟨b,o+5+1,none⟩ (.int .i64 v)) p q (s.add (wrap64 (y.ch+1)) 1):=HP.out.2.1.kept (Fr.setCell (S:=[b]) (b:=b) _ A0h) (by simp;exact HNE.out.1.symm) (by simp;exact HNE.out.2.symm);have D6:=HP.out.2.2.setCell' (b:=b) (i:=o+5+1) (.int .i64 v) A0h;generalize (w5.setCell ⟨b,o+5+1,none⟩ (.int .i64 v))=w6 at *;clear c0 c1 c2 c3 c4 c5 c6 c7 z4;refine (plc_any h6 HH.out.2.2).mono ?_;rintro e w8 ⟨rfl,F8⟩;have HQ:=q9 (qc (show CxAt w8 b T pre post { y with f1:=v } from Pb.up h6 F8) (qc (A6.kept F8 A0h A0h) (D6.then F8)));clear h6 A6 D6 F8;generalize ({ y with f1:=v }:Cx_u).plc=pl at *;go_wp2_with fail;refine (beh_any HQ.out.1 HH.out.2.2).mono ?_;rintro e w7 ⟨rfl,F7⟩;generalize hbv:({ y with f1:=v }:Cx_u).behL _=bv at *;have HB:=q9 hbv;clear hbv
 have hfin:bv=nx:=by
  rw [HX.out,← HB.out];unfold Cx_u.behL;rw [show ({ y with f1:=v }:Cx_u).ln=1 from HH.out.2.1];by_cases e:pl = -1
  ·rw [qd (by simp [e]),qd (by simp [e])]
  ·rw [qf (by simp [e]),qf (by simp [e])];exact w64 (a:=1+1) A0k A0k
 subst hfin;go_wp2;go_ret;exact ⟨rfl,by rw [HV.out];exact Pb.up HQ.out.1 F7,HQ.out.2.1.kept F7 A0h A0h,HQ.out.2.2.then F7⟩
set_option maxHeartbeats 1600000 in
set_option maxRecDepth 100000 in
theorem acc2 (hl:y.ln=2) (t:Word.Tab w) (h:CxAt w b T pre post y) (ho:pre.size=o) (hA:Ar w p q s) (hne:b≠p∧b≠q) (hg:1≠p∧1≠q∧1≠b):Calls Tryz.prog 48 #[.pointer (some ⟨b,o,none⟩),.pointer (some ⟨p,0,none⟩)] w (PostA w b p q T pre post y s):=by
 unfold PostA;have ea:y.act s=s.store (wrap64 (y.sa+1)) y.ky:=by unfold Cx_u.act;simp [hl]
 have ep:y.put s=y:=by unfold Cx_u.put;simp [hl]
 have en:y.nx s=3:=by unfold Cx_u.nx Cx_u.goes;simp [hl,ep]
 exact Po
set_option maxHeartbeats 1600000 in
set_option maxRecDepth 100000 in
theorem acc3 (hl:y.ln=3) (t:Word.Tab w) (h:CxAt w b T pre post y) (ho:pre.size=o) (hA:Ar w p q s) (hne:b≠p∧b≠q) (hg:1≠p∧1≠q∧1≠b):Calls Tryz.prog 48 #[.pointer (some ⟨b,o,none⟩),.pointer (some ⟨p,0,none⟩)] w (PostA w b p q T pre post y s):=by
 unfold PostA;have ea:y.act s=s.store (wrap64 (y.sa+2)) y.dt:=by unfold Cx_u.act;simp [hl]
 have ep:y.put s=y:=by unfold Cx_u.put;simp [hl]
 have en:y.nx s=4:=by unfold Cx_u.nx Cx_u.goes;simp [hl,ep]
 exact Po
set_option maxHeartbeats 1600000 in
set_option maxRecDepth 100000 in
theorem acc4 (hl:y.ln=4) (t:Word.Tab w) (h:CxAt w b T pre post y) (ho:pre.size=o) (hA:Ar w p q s) (hne:b≠p∧b≠q) (hg:1≠p∧1≠q∧1≠b):Calls Tryz.prog 48 #[.pointer (some ⟨b,o,none⟩),.pointer (some ⟨p,0,none⟩)] w (PostA w b p q T pre post y s):=by
 unfold PostA;have ea:y.act s=s.swap y.sa 0 1:=by unfold Cx_u.act;simp [hl]
 have ep:y.put s=y:=by unfold Cx_u.put;simp [hl]
 have en:y.nx s=if s.can y.sa 0=true then 5 else 8:=by unfold Cx_u.nx Cx_u.goes;simp [hl,ep]
 rw [ea,ep];generalize hnx:y.nx s=nx at *;have HX:=q9 en;clear ea ep en hnx;obtain ⟨c0,c1,c2,c3,c4,c5,c6,c7⟩:=cx_cells h ho;have HH:=q9 (qc h (qc hl ho));have HA:=q9 hA;have HT:=q9 (qc t hg);have HNE:=q9 hne;have k0:=qb c0;have k5:=qb c5;clear hl h hA t hg hne c0 c1 c2 c3 c4 c5 c6 c7 ho;go_enter Tryz.func48,Tryz.ntmps48;go_wp2_with fail;refine Ru A0g A0g ?_;repeat (go_big_quiet_step ((go_at_call 42;exact Calls.in_same (stateQ_any _ _ _))))
 refine wpQuiet_nil ?_;intro w1 F1;clear k0 k5;rw [show Qp y.ch y.f1=y.sa from rfl];have h1:CxAt w1 b T pre post y:=Pb.up HH.out.1 F1;have A1:=HA.out.kept F1 A0h A0h;have HF:=q9 F1;have z1:=h1.frozen;obtain ⟨c0,c1,c2,c3,c4,c5,c6,c7⟩:=cx_cells h1 HH.out.2.2;rw [HH.out.2.1] at c4;have HH1:=q9 h1;clear h1;go_wp2_with fail;refine (Ar.yp _ p q s _ _ _ A1).mono ?_;rintro e w4 ⟨rfl,A4,F4⟩;exact Pp
set_option maxHeartbeats 1600000 in
set_option maxRecDepth 100000 in
theorem acc5 (hl:y.ln=5) (t:Word.Tab w) (h:CxAt w b T pre post y) (ho:pre.size=o) (hA:Ar w p q s) (hne:b≠p∧b≠q) (hg:1≠p∧1≠q∧1≠b):Calls Tryz.prog 48 #[.pointer (some ⟨b,o,none⟩),.pointer (some ⟨p,0,none⟩)] w (PostA w b p q T pre post y s):=by
 unfold PostA;have ea:y.act s=s.load 1:=by unfold Cx_u.act;simp [hl]
 have ep:y.put s = { y with f5:=qw s.l 1 }:=by unfold Cx_u.put;simp [hl]
 have en:y.nx s=6:=by unfold Cx_u.nx Cx_u.goes;simp [hl,ep]
 rw [ea,ep];generalize hnx:y.nx s=nx at *;have HX:=q9 en;clear ea ep en hnx;obtain ⟨c0,c1,c2,c3,c4,c5,c6,c7⟩:=cx_cells h ho;have HH:=q9 (qc h (qc hl ho));have HA:=q9 hA;have HT:=q9 (qc t hg);have HNE:=q9 hne;have k0:=qb c0;have k5:=qb c5;clear hl h hA t hg hne c0 c1 c2 c3 c4 c5 c6 c7 ho;go_enter Tryz.func48,Tryz.ntmps48;go_wp2_with fail;refine Ru A0g A0g ?_;repeat (go_big_quiet_step ((go_at_call 42;exact Calls.in_same (stateQ_any _ _ _))))
 refine wpQuiet_nil ?_;intro w1 F1;clear k0 k5;rw [show Qp y.ch y.f1=y.sa from rfl];have h1:CxAt w1 b T pre post y:=Pb.up HH.out.1 F1;have A1:=HA.out.kept F1 A0h A0h;have HF:=q9 F1;have z1:=h1.frozen;obtain ⟨c0,c1,c2,c3,c4,c5,c6,c7⟩:=cx_cells h1 HH.out.2.2;rw [HH.out.2.1] at c4;have HH1:=q9 h1;clear h1;generalize hv:qw s.l 1=v at *;have HV:=q9 hv;clear hv;go_wp2_with fail;refine qp A0g ?_;refine za [p,q] w1 #[true,true,true,true,true,true,false] 6 1 rfl ?_;refine envT_pass [true,true,false,true,true,false,false] 2 (n:=110) (listed':=#[true,true,false,true,true,false,false]) rfl A0g A0g A0g A0g A0g rfl A0g (fun _ _ d _ _ h=>by cases d <;> exact h) ((Fr.refl _ w1).drew) ?_;apply qg;refine ⟨fun wf Ff=>?_,?_⟩
 ·exact Pu
 refine q87 2 A0g rfl rfl (fun w3 F3=>?_);have D3:=(Fr.refl [] w1).drew.trans F3;have A3:=A1.kept D3 A0h A0h;clear F3 A1 z1 c0 c1 c2 c3 c4 c5 c6 c7;go_wp2_with fail;refine (Ar.zl _ p q s _ A3).mono ?_;rintro e w4 ⟨rfl,A4,F4⟩;rw [HV.out];go_wp2_with fail;refine ql ⟨(D3.mono A0h).trans F4,?_⟩;refine q87 5 A0g rfl rfl (fun w4' F4'=>?_);replace A4:=A4.kept F4' A0h A0h;replace F4:=F4.then F4';clear F4';go_wp2_with fail;refine ql ⟨(D3.mono A0h).trans F4,?_⟩;refine qy (k:=6) rfl A0g (fun w5 F5=>?_);replace F4:Fr [p,q] w1 w5:=((D3.mono A0h).trans F4).then F5;replace A4:=A4.kept F5 A0h A0h;clear D3 F5 A3;have h4:CxAt w5 b T pre post y:=Pb.kept HH1.out F4 A0m;have D4:Fr [b,p,q] w w5:=(HF.out.mono A0h).trans (F4.mono A0h);clear F4;have HP:=q9 (qc h4 (qc A4 D4));obtain ⟨c0,c1,c2,c3,c4,c5,c6,c7⟩:=cx_cells h4 HH.out.2.2;rw [HH.out.2.1] at c4;have z4:=h4.frozen;clear h4 A4 D4;go_wp2_with fail;go_ret;refine ⟨by rw [HX.out];rfl,?_,?_,?_⟩
 ·rw [HV.out];exact Pb.set HP.out.1 HH.out.2.2 (i:=10) (by show 10<13;omega) (.int .i64 v)
 ·exact Ps
 ·exact A0a
set_option maxHeartbeats 1600000 in
set_option maxRecDepth 100000 in
theorem acc6 (hl:y.ln=6) (t:Word.Tab w) (h:CxAt w b T pre post y) (ho:pre.size=o) (hA:Ar w p q s) (hne:b≠p∧b≠q) (hg:1≠p∧1≠q∧1≠b):Calls Tryz.prog 48 #[.pointer (some ⟨b,o,none⟩),.pointer (some ⟨p,0,none⟩)] w (PostA w b p q T pre post y s):=by
 unfold PostA;have ea:y.act s=s.swap y.sa 1 (yc y.f5):=by unfold Cx_u.act;simp [hl]
 have ep:y.put s=y:=by unfold Cx_u.put;simp [hl]
 have en:y.nx s=7:=by unfold Cx_u.nx Cx_u.goes;simp [hl,ep]
 rw [ea,ep];generalize hnx:y.nx s=nx at *;have HX:=q9 en;clear ea ep en hnx;obtain ⟨c0,c1,c2,c3,c4,c5,c6,c7⟩:=cx_cells h ho;have HH:=q9 (qc h (qc hl ho));have HA:=q9 hA;have HT:=q9 (qc t hg);have HNE:=q9 hne;have k0:=qb c0;have k5:=qb c5;clear hl h hA t hg hne c0 c1 c2 c3 c4 c5 c6 c7 ho;go_enter Tryz.func48,Tryz.ntmps48;go_wp2_with fail;refine Ru A0g A0g ?_;repeat (go_big_quiet_step ((go_at_call 42;exact Calls.in_same (stateQ_any _ _ _))))
 refine wpQuiet_nil ?_;intro w1 F1;clear k0 k5;rw [show Qp y.ch y.f1=y.sa from rfl];have h1:CxAt w1 b T pre post y:=Pb.up HH.out.1 F1;have A1:=HA.out.kept F1 A0h A0h;have HF:=q9 F1;have z1:=h1.frozen;obtain ⟨c0,c1,c2,c3,c4,c5,c6,c7⟩:=cx_cells h1 HH.out.2.2;rw [HH.out.2.1] at c4;have HH1:=q9 h1;clear h1;have tt:=Gq_u.tab_up HT.out.1 HF.out;go_wp2_with fail;refine (Gq_u.state9 y.f5 _ tt).mono ?_;rintro e w2 ⟨rfl,F2⟩;have A2:=A1.kept F2 A0h A0h;clear A1 c0 c1 c2 c3 c4 c5 c6 c7 z1 tt;go_wp2_with fail;refine (Ar.yp _ p q s _ _ _ A2).mono ?_;rintro e w4 ⟨rfl,A4,F4⟩;replace F4:Fr [p,q] w1 w4:=(F2.mono A0h).trans F4;clear F2 A2;have h4:CxAt w4 b T pre post y:=Pb.kept HH1.out F4 A0m;have D4:Fr [b,p,q] w w4:=(HF.out.mono A0h).trans (F4.mono A0h);obtain ⟨c0,c1,c2,c3,c4,c5,c6,c7⟩:=cx_cells h4 HH.out.2.2;rw [HH.out.2.1] at c4;have z4:=h4.frozen;have HP:=q9 (qc h4 (qc A4 D4));clear h4 A4 D4 F4;exact A0d
set_option maxHeartbeats 1600000 in
set_option maxRecDepth 100000 in
theorem acc7 (hl:y.ln=7) (t:Word.Tab w) (h:CxAt w b T pre post y) (ho:pre.size=o) (hA:Ar w p q s) (hne:b≠p∧b≠q) (hg:1≠p∧1≠q∧1≠b):Calls Tryz.prog 48 #[.pointer (some ⟨b,o,none⟩),.pointer (some ⟨p,0,none⟩)] w (PostA w b p q T pre post y s):=by
 unfold PostA;have ea:y.act s=s.load y.sa:=by unfold Cx_u.act;simp [hl]
 have ep:y.put s = { y with f7:=qw s.l y.sa }:=by unfold Cx_u.put;simp [hl]
 have en:y.nx s=8:=by unfold Cx_u.nx Cx_u.goes;simp [hl,ep]
 rw [ea,ep];generalize hnx:y.nx s=nx at *;have HX:=q9 en;clear ea ep en hnx;obtain ⟨c0,c1,c2,c3,c4,c5,c6,c7⟩:=cx_cells h ho;have HH:=q9 (qc h (qc hl ho));have HA:=q9 hA;have HT:=q9 (qc t hg);have HNE:=q9 hne;have k0:=qb c0;have k5:=qb c5;clear hl h hA t hg hne c0 c1 c2 c3 c4 c5 c6 c7 ho;go_enter Tryz.func48,Tryz.ntmps48;go_wp2_with fail;refine Ru A0g A0g ?_;repeat (go_big_quiet_step ((go_at_call 42;exact Calls.in_same (stateQ_any _ _ _))))
 refine wpQuiet_nil ?_;intro w1 F1;clear k0 k5;rw [show Qp y.ch y.f1=y.sa from rfl];have h1:CxAt w1 b T pre post y:=Pb.up HH.out.1 F1;have A1:=HA.out.kept F1 A0h A0h;have HF:=q9 F1;have z1:=h1.frozen;obtain ⟨c0,c1,c2,c3,c4,c5,c6,c7⟩:=cx_cells h1 HH.out.2.2;rw [HH.out.2.1] at c4;have HH1:=q9 h1;clear h1;generalize hv:qw s.l y.sa=v at *;have HV:=q9 hv;clear hv;go_wp2_with fail;refine qp A0g ?_;refine za [p,q] w1 #[true,true,true,true,true,true,true,false] 7 1 rfl ?_;refine envT_pass [true,true,true,false,true,true,false,false] 2 (n:=110) (listed':=#[true,true,true,false,true,true,false,false]) rfl A0g A0g A0g A0g A0g rfl A0g (fun _ _ d _ _ h=>by cases d <;> exact h) ((Fr.refl _ w1).drew) ?_;apply qg;refine ⟨fun wf Ff=>?_,?_⟩
 ·exact Pu
 refine q87 3 A0g rfl rfl (fun w3 F3=>?_);have D3:=(Fr.refl [] w1).drew.trans F3;have A3:=A1.kept D3 A0h A0h;clear F3 A1 z1 c0 c1 c2 c3 c4 c5 c6 c7;go_wp2_with fail;refine (Ar.zl _ p q s _ A3).mono ?_;rintro e w4 ⟨rfl,A4,F4⟩;rw [HV.out];go_wp2_with fail;refine ql ⟨(D3.mono A0h).trans F4,?_⟩;refine q87 6 A0g rfl rfl (fun w4' F4'=>?_);replace A4:=A4.kept F4' A0h A0h;replace F4:=F4.then F4';clear F4';go_wp2_with fail;refine ql ⟨(D3.mono A0h).trans F4,?_⟩;refine qy (k:=7) rfl A0g (fun w5 F5=>?_);replace F4:Fr [p,q] w1 w5:=((D3.mono A0h).trans F4).then F5;replace A4:=A4.kept F5 A0h A0h;clear D3 F5 A3;have h4:CxAt w5 b T pre post y:=Pb.kept HH1.out F4 A0m;have D4:Fr [b,p,q] w w5:=(HF.out.mono A0h).trans (F4.mono A0h);clear F4;have HP:=q9 (qc h4 (qc A4 D4));obtain ⟨c0,c1,c2,c3,c4,c5,c6,c7⟩:=cx_cells h4 HH.out.2.2;rw [HH.out.2.1] at c4;have z4:=h4.frozen;clear h4 A4 D4;go_wp2_with fail;go_ret;refine ⟨by rw [HX.out];rfl,?_,?_,?_⟩
 ·rw [HV.out];exact Pb.set HP.out.1 HH.out.2.2 (i:=12) (by show 12<13;omega) (.int .i64 v)
 ·exact Ps
 ·exact A0a
theorem acc_any (hl:0≤y.ln∧y.ln≤7) (t:Word.Tab w) (h:CxAt w b T pre post y) (ho:pre.size=o) (hA:Ar w p q s) (hne:b≠p∧b≠q) (hg:1≠p∧1≠q∧1≠b):Calls Tryz.prog 48 #[.pointer (some ⟨b,o,none⟩),.pointer (some ⟨p,0,none⟩)] w (PostA w b p q T pre post y s):=by
 rcases (by omega:y.ln=0∨y.ln=1∨y.ln=2∨y.ln=3∨y.ln=4∨y.ln=5∨y.ln=6∨y.ln=7) with e | e | e | e | e | e | e | e
 ·exact acc0 e t h ho hA hne hg
 ·exact acc1 e t h ho hA hne hg
 ·exact acc2 e t h ho hA hne hg
 ·exact acc3 e t h ho hA hne hg
 ·exact acc4 e t h ho hA hne hg
 ·exact acc5 e t h ho hA hne hg
 ·exact acc6 e t h ho hA hne hg
 ·exact acc7 e t h ho hA hne hg
def PostS (w:World) (b p q:Nat) (T:TypeId) (pre post:Array Value) (y:Cx_u) (s:St) (e:Ending) (w':World):Prop:=e = .returned (.bool (decide (y.ln=8)))∧CxAt w' b T pre post y∧Ar w' p q s∧Fr [b,p,q] w w'
set_option maxHeartbeats 1600000 in
set_option maxRecDepth 100000 in
theorem step_on (hl:0≤y.ln∧y.ln≤7) (t:Word.Tab w) (h:CxAt w b T pre post y) (ho:pre.size=o) (hA:Ar w p q s) (hne:b≠p∧b≠q) (hg:1≠p∧1≠q∧1≠b):Calls Tryz.prog 15 #[.pointer (some ⟨b,o,none⟩),.pointer (some ⟨p,0,none⟩)] w (PostS w b p q T pre post (y.step s) (y.act s)):=by
 obtain ⟨c0,c1,c2,c3,c4,c5,c6,c7⟩:=cx_cells h ho;have HS:=q9 (acc_any hl t h ho hA hne hg);have HO:=q9 ho;have HNE:=q9 hne;have q0:(y.ln != 8)=true:=by simp;omega
 unfold PostS Cx_u.step;generalize hx:y.nx s=nx at *;have HX:=q9 hx;clear hx hl ho t hA hg hne h c0 c1 c2 c3 c5 c6 c7;generalize hln:y.ln=l0 at *;go_enter Tryz.func15,Tryz.ntmps15;go_wp2_with fail;refine HS.out.mono ?_;rintro e w4 ⟨rfl,h4,A4,D4⟩;rw [HX.out];have HP:=q9 (qc h4 (qc A4 D4));obtain ⟨c0,c1,c2,c3,c4,c5,c6,c7⟩:=cx_cells h4 HO.out;have z4:=h4.frozen;clear h4 A4 D4 c0 c1 c2 c3 c5 c6 c7;go_wp2;go_ret;refine ⟨?_,?_,?_,?_⟩
 ·first | rfl | (show Ending.returned (.bool (nx == 8)) = .returned (.bool (decide (nx=8)));congr)
 ·exact Pb.set HP.out.1 HO.out (i:=4) (by show 4<13;omega) (.int .i64 nx)
 ·exact Ps
 ·exact A0a
def Cx_u.go (y:Cx_u) (s:St):Cx_u×St:=if y.ln=8 then (y,s) else (y.step s,y.act s)
theorem step_any (hl:0≤y.ln∧y.ln≤8) (t:Word.Tab w) (h:CxAt w b T pre post y) (ho:pre.size=o) (hA:Ar w p q s) (hne:b≠p∧b≠q) (hg:1≠p∧1≠q∧1≠b):Calls Tryz.prog 15 #[.pointer (some ⟨b,o,none⟩),.pointer (some ⟨p,0,none⟩)] w (PostS w b p q T pre post (y.go s).1 (y.go s).2):=by
 by_cases e8:y.ln=8
 ·have eg:y.go s=(y,s):=by unfold Cx_u.go;rw [qf e8]
  rw [eg];obtain ⟨c0,c1,c2,c3,c4,-⟩:=cx_cells h ho;rw [e8] at c4;have HH:=q9 (qc h hA);have HE:=q9 e8;have q0:((8:Int) != 8)=false:=by decide
  unfold PostS;clear h hA e8 eg c0 c1 c2 c3 hl ho hg;go_enter Tryz.func15,Tryz.ntmps15;go_wp2;go_ret;exact ⟨by rw [HE.out];rfl,HH.out.1,HH.out.2,Fr.refl _ _⟩
 ·have eg:y.go s=(y.step s,y.act s):=by unfold Cx_u.go;rw [qd e8]
  rw [eg];exact step_on A0f t h ho hA hne hg
end
end Go.Proofs.YtaccfepnhmgagaaGreatDoor.Cc_u
namespace Go.Proofs.YtaccfepnhmgagaaGreatDoor.Cc_u
open Go.RowKit Go.Proofs.YtaccfepnhmgagaaGreatDoor.Ar Go.Proofs.YtaccfepnhmgagaaGreatDoor.Mx
set_option linter.unusedVariables false
set_option linter.unusedSimpArgs false
def Cx_u.new (rm ch ky dt:Int):Cx_u:=⟨ch,ky,dt,rm,0,0,-1,0,0,0,0,0,0⟩
theorem qbe (c:Cf) (ch ky dt:Int) (w:World):Calls Tryz.prog 13 #[c.val,.int .i64 ch,.int .i64 ky,.int .i64 dt] w fun e w'=>∃ b,e = .returned (.pointer (some ⟨b,0,none⟩))∧w.heap.size≤b∧CxAt w' b 94 #[] #[] (Cx_u.new c.c ch ky dt)∧Fr [] w w':=by unfold Cf.val;obtain ⟨c0,c1,c2,c3⟩:=Pl.yn (Go.heap_alloc_new w (.cells #[.int .i64 c.t,.int .i64 c.c,.int .i64 c.wd,.int .i64 c.v] 23));have F0:=(Fr.refl [] w).alloc (.cells #[.int .i64 c.t,.int .i64 c.c,.int .i64 c.wd,.int .i64 c.v] 23);go_enter Tryz.func13,Tryz.ntmps13;go_wp2_with fail;go_ret;exact ⟨_,rfl,by omega,Ob.newAt (Yp _ _) _ _,F0.alloc _⟩
section
variable {w:World} {b o p q:Nat} {T:TypeId} {pre post:Array Value} {y:Cx_u} {s:St}
def Cx_u.ver (y:Cx_u):Int:=if Word.q20 y.f7<0 then 0 else Word.q20 y.f7
def Cx_u.has (y:Cx_u):Bool:=decide (0≤Word.q20 y.f7)
def PostV (w:World) (v:Int) (g:Bool) (e:Ending) (w':World):Prop:=e = .returned (.tuple #[.int .i64 v,.bool g])∧Fr [] w w'
theorem Vg (hf:y.f7≤9223372036854775807) (h:CxAt w b T pre post y) (ho:pre.size=o):Calls Tryz.prog 20 #[.pointer (some ⟨b,o,none⟩)] w (PostV w y.ver y.has):=by
 obtain ⟨-,-,-,-,-,-,-,c7⟩:=cx_cells h ho;have HV:=q9 (Word.qal y.f7 w hf);clear h hf;unfold Cx_u.ver Cx_u.has;generalize Word.q20 y.f7=v at *;by_cases e1:v<0
 ·have g1:decide (v<0)=true:=by simpa using e1
  rw [qf e1,show decide (0≤v)=false by simp;omega];go_enter Tryz.func20,Tryz.ntmps20;go_wp2_with fail;refine HV.out.mono ?_;rintro e w2 ⟨rfl,rfl⟩;go_wp2;exact bodyPost_ret (v:=.tuple #[.int .i64 0,.bool false]) A0r rfl ⟨rfl,Fr.refl _ _⟩
 ·have g1:decide (v<0)=false:=by simpa using e1
  rw [qd e1,show decide (0≤v)=true by simp;omega];go_enter Tryz.func20,Tryz.ntmps20;go_wp2_with fail;refine HV.out.mono ?_;rintro e w2 ⟨rfl,rfl⟩;go_wp2;exact bodyPost_ret (v:=.tuple #[.int .i64 v,.bool true]) A0r rfl ⟨rfl,Fr.refl _ _⟩
end
def CcIs (w:World) (b:Nat) (y:Cx_u):Prop:=CxAt w b 94 #[] #[] y
theorem CcIs.up {w w':World} {b:Nat} {y:Cx_u} (h:CcIs w b y) (f:Fr [] w w'):CcIs w' b y:=Pb.up h f
theorem CcIs.kept {S:List Nat} {w w':World} {b:Nat} {y:Cx_u} (h:CcIs w b y) (f:Fr S w w') (hb:b∉S):CcIs w' b y:=Pb.kept h f hb
theorem CcIs.lt {w:World} {b:Nat} {y:Cx_u} (h:CcIs w b y):b<w.heap.size:=Pb.lt h
def runC:Nat→Cx_u→St→Cx_u×St
 | 0,y,s=>(y,s)
 | n+1,y,s=>let r:=runC n y s;r.1.go r.2
theorem go_ln {y:Cx_u} {s:St} (h:0≤y.ln∧y.ln≤8):0≤(y.go s).1.ln∧(y.go s).1.ln≤8:=by
 unfold Cx_u.go;by_cases e:y.ln=8
 ·rw [qf e];exact h
 ·rw [qd e];show 0≤y.nx s∧y.nx s≤8;unfold Cx_u.nx;split <;> omega
theorem run_ln {y:Cx_u} {s:St} (h:0≤y.ln∧y.ln≤8):∀ n,0≤(runC n y s).1.ln∧(runC n y s).1.ln≤8
 | 0=>h
 | n+1=>go_ln (run_ln h n)
def PostK (w:World) (b p q:Nat) (y:Cx_u) (s:St) (e:Ending) (w':World):Prop:=e = .returned (.bool (decide (y.ln=8)))∧CcIs w' b y∧Ar w' p q s∧Fr [b,p,q] w w'
theorem kstep_any {w:World} {b p q:Nat} {y:Cx_u} {s:St} (hl:0≤y.ln∧y.ln≤8) (t:Word.Tab w) (h:CcIs w b y) (hA:Ar w p q s) (hne:b≠p∧b≠q) (hg:1≠p∧1≠q∧1≠b):Calls Tryz.prog 15 #[.pointer (some ⟨b,0,none⟩),.pointer (some ⟨p,0,none⟩)] w (PostK w b p q (y.go s).1 (y.go s).2) :=
 (step_any (o:=0) hl t h rfl hA hne hg).mono fun e w' h=>h
theorem kplc_any {w:World} {b:Nat} {y:Cx_u} (h:CcIs w b y):Calls Tryz.prog 21 #[.pointer (some ⟨b,0,none⟩)] w fun e w'=>e = .returned (.int .i64 y.plc)∧Fr [] w w':=plc_any (o:=0) h rfl
theorem kver_any {w:World} {b:Nat} {y:Cx_u} (hf:y.f7≤9223372036854775807) (h:CcIs w b y):Calls Tryz.prog 20 #[.pointer (some ⟨b,0,none⟩)] w (PostV w y.ver y.has):=Vg (o:=0) hf h rfl
end Go.Proofs.YtaccfepnhmgagaaGreatDoor.Cc_u
namespace Go.Proofs.YtaccfepnhmgagaaGreatDoor.Cc_u
open Go.RowKit Go.Proofs.YtaccfepnhmgagaaGreatDoor.Ar Go.Proofs.YtaccfepnhmgagaaGreatDoor.Mx
set_option linter.unusedVariables false
set_option linter.unusedSimpArgs false
theorem pk_defC (l:List Int) (q:Int):qw l q=if 0≤q∧q<(l.length:Int) then l.getD q.toNat 0 else 0:=by unfold qw J8 nth;simp only [Bool.and_eq_true,decide_eq_true_eq]
theorem pk_pokeC (l:List Int) (p v q:Int):qw (yl l p v) q=if q=p∧0≤p∧p<(l.length:Int) then v else qw l q:=by
 by_cases hp:0≤p∧p<(l.length:Int)
 ·obtain ⟨k,rfl⟩:=Int.eq_ofNat_of_zero_le hp.1;have hk:k<l.length:=by omega
  have e:yl l (k:Int) v=l.set k v:=by unfold yl J8;simp [hk]
  rw [e,pk_defC,pk_defC l,List.length_set];by_cases hq:0≤q∧q<(l.length:Int)
  ·rw [qf hq,qf hq];by_cases h:q=(k:Int)
   ·subst h;rw [qf ⟨rfl,hp⟩,Int.toNat_natCast,List.getD_eq_getElem?_getD,List.getElem?_set_self hk];rfl
   ·rw [qd A0f,List.getD_eq_getElem?_getD,List.getD_eq_getElem?_getD,List.getElem?_set_ne A0f]
  ·rw [qd hq,qd hq,qd A0f]
 ·have e:yl l p v=l:=by unfold yl;rw [qd (by unfold J8;simp;omega)]
  rw [e,qd A0f]
theorem ln_swap (s:St) (a o v:Int):(s.swap a o v).l=if 0≤a∧a<(s.l.length:Int)∧qw s.l a=o then yl s.l a v else s.l:=by
 unfold St.swap St.can J8;by_cases h:0≤a∧a<(s.l.length:Int)∧qw s.l a=o
 ·rw [qf h,qf (by simp [h.1,h.2.1,h.2.2])];rfl
 ·rw [qd h];by_cases h2:(decide (0≤a) && decide (a<(s.l.length:Int)) && (qw s.l a == o))=true
  ·exfalso;simp at h2;exact h ⟨h2.1.1,h2.1.2,h2.2⟩
  ·rw [qd h2];rfl
theorem can_iff (s:St) (a o:Int):s.can a o=true↔(0≤a∧a<(s.l.length:Int)∧qw s.l a=o):=by unfold St.can J8;simp [and_assoc]
theorem sa_in {y:Cx_u} (h:0≤y.ch∧y.ch≤100000) (h2:0≤y.f1∧y.f1≤1000):y.sa=y.ch+7+3 * y.f1:=by unfold Cx_u.sa Qp;exact w64 A0f A0f
section
variable {y:Cx_u} {s:St}
theorem go0 (hl:y.ln=0) (h:0≤y.ch∧y.ch≤100000):(y.go s).1 = { y with ln:=if qw s.l (y.ch+6)=0 then 1 else 8 } ∧ (y.go s).2.l=s.l:=by unfold Cx_u.go Cx_u.step Cx_u.act Cx_u.put Cx_u.nx Cx_u.goes;rw [qd A0f];simp only [hl,w64 (a:=y.ch+6) A0f A0f];refine ⟨?_,rfl⟩;by_cases e:qw s.l (y.ch+6)=0 <;> simp [e]
theorem go1 (hl:y.ln=1) (h:0≤y.ch∧y.ch≤100000):(y.go s).1 = { y with f1:=qw s.l (y.ch+1),ln:=if 0≤qw s.l (y.ch+1)∧qw s.l (y.ch+1)<y.rm then 2 else 8 } ∧ (y.go s).2.l=yl s.l (y.ch+1) (wrap64 (qw s.l (y.ch+1)+1)):=by
 unfold Cx_u.go Cx_u.step Cx_u.act Cx_u.put Cx_u.nx Cx_u.goes Cx_u.put;rw [qd A0f];simp only [hl,w64 (a:=y.ch+1) A0f A0f];refine ⟨?_,rfl⟩;generalize qw s.l (y.ch+1)=v;simp only [Cx_u.plc];by_cases e1:v<0
 ·simp [e1] <;> omega
 ·by_cases e2:y.rm≤v
  ·simp [e1,e2] <;> omega
  ·simp [e1,e2];rw [qd A0f,qf A0f]
theorem go2 (hl:y.ln=2) (h:0≤y.ch∧y.ch≤100000) (h2:0≤y.f1∧y.f1≤1000):(y.go s).1 = { y with ln:=3 } ∧ (y.go s).2.l=yl s.l (y.ch+7+3 * y.f1+1) y.ky:=by have e:=sa_in h h2;unfold Cx_u.go Cx_u.step Cx_u.act Cx_u.put Cx_u.nx Cx_u.goes;rw [qd A0f];simp only [hl,e,w64 (a:=y.ch+7+3 * y.f1+1) A0f A0f];exact ⟨rfl,rfl⟩
theorem go3 (hl:y.ln=3) (h:0≤y.ch∧y.ch≤100000) (h2:0≤y.f1∧y.f1≤1000):(y.go s).1 = { y with ln:=4 } ∧ (y.go s).2.l=yl s.l (y.ch+7+3 * y.f1+2) y.dt:=by have e:=sa_in h h2;unfold Cx_u.go Cx_u.step Cx_u.act Cx_u.put Cx_u.nx Cx_u.goes;rw [qd A0f];simp only [hl,e,w64 (a:=y.ch+7+3 * y.f1+2) A0f A0f];exact ⟨rfl,rfl⟩
theorem go4 (hl:y.ln=4) (h:0≤y.ch∧y.ch≤100000) (h2:0≤y.f1∧y.f1≤1000) (h3:y.ch+7+3 * y.f1<(s.l.length:Int)):(y.go s).1 = { y with ln:=if qw s.l (y.ch+7+3 * y.f1)=0 then 5 else 8 } ∧ (y.go s).2.l=if qw s.l (y.ch+7+3 * y.f1)=0 then yl s.l (y.ch+7+3 * y.f1) 1 else s.l:=by
 have e:=sa_in h h2;unfold Cx_u.go Cx_u.step Cx_u.act Cx_u.put Cx_u.nx Cx_u.goes;rw [qd A0f];simp only [hl,e,ln_swap];have e2:=can_iff s (y.ch+7+3 * y.f1) 0;by_cases e1:qw s.l (y.ch+7+3 * y.f1)=0
 ·have e3:s.can (y.ch+7+3 * y.f1) 0=true:=e2.2 ⟨by omega,by omega,e1⟩;simp [e1,e3,ln_swap] <;> omega
 ·have e3:¬ s.can (y.ch+7+3 * y.f1) 0=true:=fun h=>e1 (e2.1 h).2.2
  simp [e1,e3,ln_swap]
theorem go5 (hl:y.ln=5):(y.go s).1 = { y with f5:=qw s.l 1,ln:=6 } ∧ (y.go s).2.l=s.l:=by unfold Cx_u.go Cx_u.step Cx_u.act Cx_u.put Cx_u.nx Cx_u.goes;rw [qd A0f];simp only [hl];exact ⟨rfl,rfl⟩
theorem go6 (hl:y.ln=6) (h:0≤y.ch∧y.ch≤100000) (h2:0≤y.f1∧y.f1≤1000) (h3:y.ch+7+3 * y.f1<(s.l.length:Int)):(y.go s).1 = { y with ln:=7 } ∧ (y.go s).2.l=if qw s.l (y.ch+7+3 * y.f1)=1 then yl s.l (y.ch+7+3 * y.f1) (yc y.f5) else s.l:=by
 have e:=sa_in h h2;unfold Cx_u.go Cx_u.step Cx_u.act Cx_u.put Cx_u.nx Cx_u.goes;rw [qd A0f];simp only [hl,e];refine ⟨rfl,?_⟩;show (s.swap (y.ch+7+3 * y.f1) 1 (yc y.f5)).l=_;rw [ln_swap];by_cases e1:qw s.l (y.ch+7+3 * y.f1)=1
 ·rw [qf e1,qf ⟨by omega,by omega,e1⟩]
 ·rw [qd e1,qd (fun h=>e1 h.2.2)]
theorem go7 (hl:y.ln=7) (h:0≤y.ch∧y.ch≤100000) (h2:0≤y.f1∧y.f1≤1000):(y.go s).1 = { y with f7:=qw s.l (y.ch+7+3 * y.f1),ln:=8 } ∧ (y.go s).2.l=s.l:=by have e:=sa_in h h2;unfold Cx_u.go Cx_u.step Cx_u.act Cx_u.put Cx_u.nx Cx_u.goes;rw [qd A0f];simp only [hl,e];exact ⟨rfl,rfl⟩
end
end Go.Proofs.YtaccfepnhmgagaaGreatDoor.Cc_u
namespace Go.Proofs.YtaccfepnhmgagaaGreatDoor.Cc_u
open Go.RowKit Go.Proofs.YtaccfepnhmgagaaGreatDoor.Ar Go.Proofs.YtaccfepnhmgagaaGreatDoor.Mx
set_option linter.unusedVariables false
set_option linter.unusedSimpArgs false
structure WtI (k cap:Int) (len i:Nat) (m:Int) (y:Cx_u) (s:St) (p:Int):Prop where
 ch:y.ch=k
 rm:y.rm=cap
 ln:y.ln=i
 le:i≤7
 len:s.l.length=len
 c0:0≤qw s.l 1
 c1:qw s.l 1≤m
 f7:y.f7=0
 f1:2≤i→0≤y.f1∧y.f1<cap
 p0:i≤4→p = -1
 p5:5≤i→0≤p∧p≤qw s.l 1∧qw s.l (k+7+3 * y.f1)=if i≤6 then 1 else y.f5+3
 f5:6≤i→p≤y.f5∧y.f5≤qw s.l 1
def posts (a:Acc):Bool:=(a.kind == 3) && a.ok && (a.new == 1)
structure WtF (k:Int) (y:Cx_u) (s:St) (p:Int) (v:Int):Prop where
 p0:0≤p
 v0:p≤v
 v1:v≤qw s.l 1
 f7:y.f7=v+3
 f1:y.plc=y.f1
 ch:0≤y.f1∧y.f1≤100
 st:qw s.l (k+7+3 * y.f1)=v+3
theorem poke1 {l:List Int} {q v:Int} (h:q≠1):qw (yl l q v) 1=qw l 1:=by rw [pk_pokeC,qd A0f]
theorem WtI.step {k cap m p:Int} {len i:Nat} {y:Cx_u} {s:St} (hk:0≤k∧k+7+3 * cap≤len) (hcap:0≤cap∧cap≤16) (hlen:len≤20000) (hm:m≤1000000) (h:WtI k cap len i m y s p) :
  ((y.go s).1.ln=8∧p = -1∧(y.go s).1.f7=0∧posts (y.go s).2.a=false) ∨
  ((y.go s).1.ln=8∧∃ v,v≤1000001∧WtF k (y.go s).1 (y.go s).2 p v) ∨
  ((y.go s).1.ln≠8∧(p<0→posts (y.go s).2.a=false)∧WtI k cap len (i+1) (m+1) (y.go s).1 (y.go s).2 p) ∨
  ((y.go s).1.ln≠8∧p = -1∧posts (y.go s).2.a=true∧WtI k cap len (i+1) (m+1) (y.go s).1 (y.go s).2 (qw (y.go s).2.l 1)):=by
 obtain ⟨ch,rm,ln,le,hl,c0,c1,f7,f1,p0,p5,f5⟩:=h;have hch:0≤y.ch∧y.ch≤100000:=by omega
 rcases (by omega:i=0∨i=1∨i=2∨i=3∨i=4∨i=5∨i=6∨i=7) with rfl | rfl | rfl | rfl | rfl | rfl | rfl | rfl
 ·obtain ⟨e1,e2⟩:=go0 (s:=s) ln hch;have ea:posts (y.go s).2.a=false:=by unfold Cx_u.go Cx_u.act;rw [qd A0f,qf A0f];rfl
  by_cases hs:qw s.l (y.ch+6)=0
  ·rw [qf hs] at e1;refine .inr (.inr (.inl ⟨by rw [e1];simp,fun _=>ea,?_⟩));rw [e1];exact ⟨ch,rm,rfl,by omega,by rw [e2];exact hl,by rw [e2];exact c0,by rw [e2];omega,f7,fun h=>by omega,fun _=>p0 A0f,fun h=>by omega,fun h=>by omega⟩
  ·rw [qd hs] at e1;exact A04
 ·obtain ⟨e1,e2⟩:=go1 (s:=s) ln hch;have ea:posts (y.go s).2.a=false:=by unfold Cx_u.go Cx_u.act;rw [qd A0f,qd A0f,qf A0f];rfl
  have hc:0≤qw (y.go s).2.l 1∧qw (y.go s).2.l 1≤m+1:=by
   rw [e2,pk_pokeC];split
   ·have hq:y.ch+1=1:=by omega
    rw [hq,w64 A0f A0f];omega
   ·omega
  by_cases hv:0≤qw s.l (y.ch+1)∧qw s.l (y.ch+1)<y.rm
  ·rw [qf hv] at e1;refine .inr (.inr (.inl ⟨by rw [e1];simp,fun _=>ea,?_⟩));rw [e1];exact ⟨ch,rm,rfl,by omega,by rw [e2,x7];exact hl,hc.1,hc.2,f7,fun _=>by rw [← rm];exact hv,fun _=>p0 A0f,fun h=>by omega,fun h=>by omega⟩
  ·rw [qd hv] at e1;exact A04
 ·have hf:=f1 A0f;obtain ⟨e1,e2⟩:=go2 (s:=s) ln hch A0f;have ea:posts (y.go s).2.a=false:=by unfold Cx_u.go Cx_u.act;rw [qd A0f,qd A0f,qd A0f,qf A0f];rfl
  exact Pq
 ·have hf:=f1 A0f;obtain ⟨e1,e2⟩:=go3 (s:=s) ln hch A0f;have ea:posts (y.go s).2.a=false:=by unfold Cx_u.go Cx_u.act;rw [qd A0f,qd A0f,qd A0f,qd A0f,qf A0f];rfl
  exact Pq
 ·have hf:=f1 A0f;obtain ⟨e1,e2⟩:=go4 (s:=s) ln hch A0f A0f;have esa:y.sa=y.ch+7+3 * y.f1:=sa_in hch A0f;by_cases hs:qw s.l (y.ch+7+3 * y.f1)=0
  ·have ea:posts (y.go s).2.a=true:=by
    unfold Cx_u.go Cx_u.act;rw [qd A0f,qd A0f,qd A0f,qd A0f,qd A0f,qf A0f];show posts (s.swap y.sa 0 1).a=true;unfold St.swap;rw [qf ((can_iff s y.sa 0).2 ⟨by omega,by omega,by rw [esa];exact hs⟩)];show ((3:Int) == 3 && true && (qw (s.yl y.sa 1).l y.sa == 1))=true;have:qw (s.yl y.sa 1).l y.sa=1:=by show qw (yl s.l y.sa 1) y.sa=1;rw [pk_pokeC,qf A0f]
    rw [this];rfl
   rw [qf hs] at e1 e2;have hc:qw (y.go s).2.l 1=qw s.l 1:=by rw [e2];exact poke1 A0f
   refine .inr (.inr (.inr ⟨by rw [e1];simp,p0 A0f,ea,?_⟩));rw [e1];refine ⟨ch,rm,rfl,by omega,by rw [e2,x7];exact hl,by omega,by omega,f7,fun _=>hf,fun h=>by omega,fun _=>⟨by omega,by omega,?_⟩,fun h=>by omega⟩;show qw (y.go s).2.l (k+7+3 * y.f1)=_;rw [qf A0f,e2,← ch,pk_pokeC,qf A0f]
  ·have ea:posts (y.go s).2.a=false:=by unfold Cx_u.go Cx_u.act;rw [qd A0f,qd A0f,qd A0f,qd A0f,qd A0f,qf A0f];show posts (s.swap y.sa 0 1).a=false;unfold St.swap;rw [qd (fun h=>hs (by have:=((can_iff s y.sa 0).1 h).2.2;rw [esa] at this;exact this))];show ((3:Int) == 3 && false && _)=false;rfl
   rw [qd hs] at e1;exact A04
 ·have hf:=f1 A0f;have hp:=p5 A0f;obtain ⟨e1,e2⟩:=go5 (s:=s) ln;refine .inr (.inr (.inl ⟨by rw [e1];simp,fun h=>by omega,?_⟩));rw [e1];exact ⟨ch,rm,rfl,by omega,by rw [e2];exact hl,by rw [e2];exact c0,by rw [e2];omega,f7,fun _=>hf,fun h=>by omega,fun _=>⟨hp.1,by rw [e2];exact hp.2.1,by rw [e2,qf A0f];exact hp.2.2⟩,fun _=>⟨hp.2.1,by rw [e2];exact Int.le_refl _⟩⟩
 ·have hf:=f1 A0f;have hp:=p5 A0f;have hg:=f5 A0f;obtain ⟨e1,e2⟩:=go6 (s:=s) ln hch A0f A0f;have h1:=hp.2.2;rw [qf A0f] at h1;rw [ch,qf h1] at e2;have hc:qw (y.go s).2.l 1=qw s.l 1:=by rw [e2];exact poke1 A0f
  refine .inr (.inr (.inl ⟨by rw [e1];simp,fun h=>by omega,?_⟩));rw [e1];refine ⟨ch,rm,rfl,by omega,by rw [e2,x7];exact hl,by omega,by omega,f7,fun _=>hf,fun h=>by omega,fun _=>⟨hp.1,by omega,?_⟩,fun _=>⟨hg.1,by rw [hc];exact hg.2⟩⟩;show qw (y.go s).2.l (k+7+3 * y.f1)=_;rw [qd A0f,e2,pk_pokeC,qf A0f];show yc y.f5=y.f5+3;unfold yc hd;omega
 ·have hf:=f1 A0f;have hp:=p5 A0f;have hg:=f5 A0f;obtain ⟨e1,e2⟩:=go7 (s:=s) ln hch A0f;have h1:=hp.2.2;rw [qd A0f] at h1;refine .inr (.inl ⟨by rw [e1],y.f5,by omega,?_⟩);rw [e1];refine ⟨hp.1,hg.1,by rw [e2];exact hg.2,?_,?_,by show 0≤y.f1∧y.f1≤100;omega,by rw [e2];exact h1⟩
  ·show qw s.l (y.ch+7+3 * y.f1)=y.f5+3;rw [ch];exact h1
  ·show ({ y with f7:=qw s.l (y.ch+7+3 * y.f1),ln:=8 }:Cx_u).plc=y.f1;unfold Cx_u.plc;show (if y.f1<0 then (-1:Int) else if y.rm≤y.f1 then -1 else y.f1)=y.f1;rw [qd A0f,qd A0f]
theorem WtI.tick {k cap m p d:Int} {len i:Nat} {y:Cx_u} {s:St} (hk:0≤k) (hlen:2≤len) (h:WtI k cap len i m y s p) (hd:0≤d∧d≤3):WtI k cap len i (m+3) y (s.yl 1 (qw s.l 1+d)) p:=by
 obtain ⟨ch,rm,ln,le,hl,c0,c1,f7,f1,p0,p5,f5⟩:=h;have hc:qw (s.yl 1 (qw s.l 1+d)).l 1=qw s.l 1+d:=by show qw (yl s.l 1 _) 1=_;rw [pk_pokeC,qf A0f]
 have ho:∀ q,q≠1→qw (s.yl 1 (qw s.l 1+d)).l q=qw s.l q:=fun q hq=>by show qw (yl s.l 1 _) q=_;rw [pk_pokeC,qd A0f]
 refine ⟨ch,rm,ln,le,by show (yl s.l 1 _).length=len;rw [x7];exact hl,by omega,by omega,f7,f1,p0,fun h5=>?_,fun h6=>?_⟩
 ·have:=p5 h5;have hf:=f1 A0f;exact ⟨this.1,by omega,by rw [ho _ A0f];exact this.2.2⟩
 ·have:=f5 h6;exact ⟨this.1,by omega⟩
theorem WtI.le_ {k cap m m' p:Int} {len i:Nat} {y:Cx_u} {s:St} (h:WtI k cap len i m y s p) (hm:m≤m'):WtI k cap len i m' y s p :=
 ⟨h.ch,h.rm,h.ln,h.le,h.len,h.c0,by have:=h.c1;omega,h.f7,h.f1,h.p0,h.p5,h.f5⟩
theorem WtI.new {k cap m ky dt:Int} {s:St} (c0:0≤qw s.l 1) (c1:qw s.l 1≤m):WtI k cap s.l.length 0 m (Cx_u.new cap k ky dt) s (-1) :=
 ⟨rfl,rfl,rfl,by omega,rfl,c0,c1,rfl,fun h=>by omega,fun _=>rfl,fun h=>by omega,fun h=>by omega⟩
end Go.Proofs.YtaccfepnhmgagaaGreatDoor.Cc_u
namespace Go.Proofs.YtaccfepnhmgagaaGreatDoor.Cc_u
open Go.RowKit Go.Proofs.YtaccfepnhmgagaaGreatDoor.Ar Go.Proofs.YtaccfepnhmgagaaGreatDoor.Mx
set_option linter.unusedVariables false
set_option linter.unusedSimpArgs false
theorem ver_of {y:Cx_u} {v:Int} (h:y.f7=v+3) (hv:0≤v):y.has=true∧y.ver=v:=by unfold Cx_u.has Cx_u.ver Word.q20;rw [h,qd A0f,qd A0f];exact ⟨by simp;omega,by omega⟩
theorem ver_no {y:Cx_u} (h:y.f7<3):y.has=false∧y.ver=0:=by unfold Cx_u.has Cx_u.ver Word.q20;rw [qf A0f,qf A0f];exact ⟨rfl,rfl⟩
end Go.Proofs.YtaccfepnhmgagaaGreatDoor.Cc_u
namespace Go.Proofs.YtaccfepnhmgagaaGreatDoor.Cc_u
open Go.RowKit Go.Proofs.YtaccfepnhmgagaaGreatDoor.Ar Go.Proofs.YtaccfepnhmgagaaGreatDoor.Mx
set_option linter.unusedVariables false
set_option linter.unusedSimpArgs false
set_option maxRecDepth 100000
def s0:St:=Pl.begun 1 3 100
def y0:Cx_u:=Cx_u.new 3 15 7 99
def s8:St:=(runC 8 y0 s0).2
def s9:St:=s8.yl 21 1
def s10:St:=(y0.go s9).2
theorem end8:(runC 8 y0 s0).1.ln=8∧(runC 8 y0 s0).1.ver=0∧(runC 8 y0 s0).1.has=true∧(runC 8 y0 s0).1.plc=0∧(runC 8 y0 s0).1.f7=3:=by decide +kernel
theorem run8:∀ k,k<8→(runC k y0 s0).1.ln≠8:=by decide +kernel
theorem end9:(y0.go s9).1.ln=8∧(y0.go s9).1.ver=0∧(y0.go s9).1.has=false∧(y0.go s9).1.f7=0:=by decide +kernel
theorem pk10:qw s10.l 16=1∧qw s10.l 22=3∧qw s10.l 23=7:=by decide +kernel
theorem tabLt {w:World} (t:Word.Tab w):1<w.heap.size:=World.block_lt_of_cell? w _ t.1
theorem new1 (w:World):Calls Tryz.prog 13 #[.agg #[.int .i64 1,.int .i64 3,.int .i64 100,.int .i64 1000],.int .i64 15,.int .i64 7,.int .i64 99] w fun e w'=>∃ b,e = .returned (.pointer (some ⟨b,0,none⟩))∧w.heap.size≤b∧CcIs w' b y0∧Fr [] w w':=qbe ⟨1,3,100,1000⟩ 15 7 99 w
def CcR (W:World) (b p q:Nat) (y:Cx_u) (s:St) (v:Value) (wr:World):Prop:=∃ k,v = .int .i64 (k:Nat)∧k<8∧CcIs wr b (runC k y s).1∧Ar wr p q (runC k y s).2∧Fr [b,p,q] W wr
set_option maxHeartbeats 3200000 in
theorem known_true (w:World) (t:Word.Tab w):Calls Tryz.prog 7 #[] w fun e w'=>e = .returned (.bool true)∧Fr [] w w':=by
 have isE:=Er.isE;go_enter Tryz.func7,Tryz.ntmps7;go_wp2_with fail;refine (Pl.conf_any 1 3 100 _).mono ?_;rintro e w1 ⟨rfl,F1⟩;have G:=F1.alloc (.cells #[.int .i64 1,.int .i64 3,.int .i64 100,.int .i64 1000] 23);have oc:=Ob.new w1 23 #[.int .i64 1,.int .i64 3,.int .i64 100,.int .i64 1000];obtain ⟨c0,c1,c2,c3⟩:=Pl.yn oc;have hcw:=oc.lt;have hw1:=F1.size;clear F1;go_wp2_with fail;refine (Pl.make_yes 1 3 100 1000 A0k _).mono ?_;rintro e w2 ⟨p,q,rfl,hp,hq,A,F2⟩;rw [Yp] at hp hq;replace oc:=oc.up F2;have hcw2:=oc.lt;have hA2:=A.lt;replace G:=G.trans F2;have hG:=G.size;have A:Ar w2 p q s0:=A;clear F2 c0 c1 c2 c3;generalize hbc:w1.heap.size=bc at *;have nqc:bc≠q:=by omega
 have npc:bc≠p:=by omega
 have hwq:w.heap.size≤q:=by omega
 have hwp:w.heap.size≤p:=by omega
 obtain ⟨c0,c1,c2,c3⟩:=Pl.yn oc;go_wp2_with fail;refine (Pl.Xb 1 3 100 1000 A0k A0k _).mono ?_;rintro e w3 ⟨rfl,F3⟩;replace A:=A.kept F3 A0h A0h;replace oc:=oc.up F3;replace G:=G.trans F3;clear F3 c0 c1 c2 c3 hG hA2 hcw2 hcw;rw [show (3+1+4+7:Int)=15 by decide];obtain ⟨c0,c1,c2,c3⟩:=Pl.yn oc;have hcl:=oc.lt;have hA3:=A.lt;have hG:=G.size;go_wp2_with fail;refine (new1 _).mono ?_;rintro e w4 ⟨b,rfl,hb,D,F4⟩;replace A:=A.kept F4 A0h A0h;replace oc:=oc.up F4;replace G:=G.trans F4;have hlt:=tabLt t;have HN:=q9 (show (b≠p∧b≠q)∧(1≠p∧1≠q∧1≠b∧1≠bc)∧(bc≠b∧bc≠p∧bc≠q)∧(w.heap.size≤b∧w.heap.size≤p∧w.heap.size≤q∧w.heap.size≤bc) by omega);have HT:=q9 (Gq_u.tab_up t G);have HO:=q9 oc;have HG:=q9 G;have HP:=q9 (kplc_any D);clear F4 c0 c1 c2 c3 t hcl hw1 hp hq hA3 hG hb hlt oc G hbc nqc npc hwq hwp;go_wp2_with fail;refine HP.out.mono ?_;rintro e w5 ⟨rfl,F5⟩;replace D:=D.up F5;replace A:=A.kept F5 A0h A0h;have HT5:=q9 (Gq_u.tab_up HT.out F5);have HO5:=q9 (HO.out.up F5);have HG5:=q9 (HG.out.trans F5);rw [show y0.plc = -1 from by decide];clear F5 HT HO HG HP;go_wp2_with fail;go_loopw [6] (CcR w5 b p q y0 s0) (fun v _=>20 - (intOf v).toNat);case atStart=>exact ⟨0,rfl,by omega,D,A,Fr.refl _ _⟩
 ·skip;obtain ⟨k,rfl,hk8,D2,A2,F2⟩:=hrel;have HS:=q9 (kstep_any (run_ln (y:=y0) (s:=s0) A0k k) (Gq_u.tab_kept HT5.out F2 A0n) D2 A2 HN.out.1 ⟨HN.out.2.1.1,HN.out.2.1.2.1,HN.out.2.1.2.2.1⟩);have HF:=q9 F2;have g1:decide ((k:Int)<20)=true:=by simp;omega
  clear D2 A2 F2 D A;go_wp2_with fail;refine HS.out.mono ?_;rintro e w6 ⟨rfl,D3,A3,F3⟩;have HF4:=q9 (HF.out.trans F3);clear HF F3;by_cases hk:k<7
  ·have g3:decide (((runC k y0 s0).1.go (runC k y0 s0).2).1.ln=8)=false:=by simp;exact run8 (k+1) A0f
   go_wp2_with fail;go_roundw;case rel=>exact ⟨k+1,by simp,by omega,D3,A3,HF4.out⟩
   case measure=>simp [intOf];omega
  ·obtain rfl:k=7:=by omega
   have g3:decide (((runC 7 y0 s0).1.go (runC 7 y0 s0).2).1.ln=8)=true:=by simp;exact end8.1
   have D4:CcIs w6 b (runC 8 y0 s0).1:=D3;have A4:Ar w6 p q s8:=A3;have HA:=q9 A4;have HD:=q9 D4;have HV:=q9 (kver_any (by rw [end8.2.2.2.2];decide) D4);rw [end8.2.1,end8.2.2.1] at HV;have FF:=HF4.out;have o5:=HO5.out.kept FF (by simp;exact HN.out.2.2.1);have t5:=Gq_u.tab_kept HT5.out FF A0n;have HG6:=q9 (HG5.out.own FF (by simp;exact ⟨HN.out.2.2.2.1,HN.out.2.2.2.2.1,HN.out.2.2.2.2.2.1⟩));have HT6:=q9 t5;have HO6:=q9 o5;clear D3 A3 HS D4 A4 FF HF4 o5 t5;go_wp2_with fail;refine HV.out.mono ?_;rintro e w7 ⟨rfl,F7⟩;have HD7:=q9 (HD.out.up F7);have HA7:=q9 (HA.out.kept F7 A0h A0h);have HT7:=q9 (Gq_u.tab_up HT6.out F7);have HO7:=q9 (HO6.out.up F7);have HG7:=q9 (HG6.out.trans F7);clear F7 HV HD HA HT6 HO6 HG6;go_wp2_with fail;refine (jw _ p q _ _ _ HA7.out).mono ?_;rintro e w8 ⟨rfl,A8,F8⟩;have A8:Ar w8 p q s9:=A8;have o8:=HO7.out.kept F8 (by simp;exact HN.out.2.2.1.2.2);have hA8:=A8.lt;have hD8:=(HD7.out.kept F8 A0p).lt;have t8:=Gq_u.tab_kept HT7.out F8 (by simp;exact HN.out.2.1.2.1);have hlt:=tabLt t8;have HD8:=q9 (HD7.out.kept F8 A0p);have HG8:=q9 (HG7.out.own F8 (by simp;exact HN.out.2.2.2.2.2.1));have hG:=HG8.out.size;obtain ⟨c0,c1,c2,c3⟩:=Pl.yn o8;clear F8 HA7 HD7 HT7 HO7 HG7 o8;go_wp2_with fail;refine (new1 _).mono ?_;rintro e w9 ⟨b2,rfl,hb2,D9,F9⟩;have A9:=A8.kept F9 A0h A0h;have t9:=Gq_u.tab_up t8 F9;have HN2:=q9 (show (b2≠p∧b2≠q)∧1≠b2∧b≠b2∧w.heap.size≤b2 by omega);have HD9:=q9 (HD8.out.up F9);have HG9:=q9 (HG8.out.trans F9);have HS:=q9 (kstep_any (y:=y0) A0k t9 D9 A9 HN2.out.1 ⟨HN.out.2.1.1,HN.out.2.1.2.1,HN2.out.2.1⟩);clear c0 c1 c2 c3 hA8 hD8 t8 hlt hG hb2 D9 F9 A9 t9 A8 HD8 HG8;go_wp2_with fail;refine HS.out.mono ?_;rintro e w10 ⟨rfl,D10,A10,F10⟩;rw [show decide ((y0.go s9).1.ln=8)=true from decide_eq_true end9.1];have HV:=q9 (kver_any (by rw [end9.2.2.2];decide) D10);rw [end9.2.1,end9.2.2.1] at HV;have HA10:=q9 (show Ar w10 p q s10 from A10);have HD10:=q9 (HD9.out.kept F10 (by simp;exact ⟨HN2.out.2.2.1,HN.out.1⟩));have HG10:=q9 (HG9.out.own F10 (by simp;exact ⟨HN2.out.2.2.2,HN.out.2.2.2.2.1,HN.out.2.2.2.2.2.1⟩));clear HS D10 A10 F10 HD9 HG9;go_wp2_with fail;refine HV.out.mono ?_;rintro e w11 ⟨rfl,F11⟩;have HA11:=q9 (HA10.out.kept F11 A0h A0h);have HP:=q9 (kplc_any (HD10.out.up F11));have HG11:=q9 (HG10.out.trans F11);rw [end8.2.2.2.1] at HP;clear HV F11 HA10 HG10;go_wp2_with fail;refine HP.out.mono ?_;rintro e w12 ⟨rfl,F12⟩;have HA12:=q9 (HA11.out.kept F12 A0h A0h);have HG12:=q9 (HG11.out.trans F12);clear HP F12 HA11 HG11;go_wp2_with fail;refine (vk _ p q _ _ HA12.out).mono ?_;rintro e _ ⟨rfl,rfl⟩;rw [pk10.1];go_wp2_with fail;refine (Pl.Qt 15 0 A0k A0k A0k A0k _).mono ?_;rintro e _ ⟨rfl,rfl⟩;rw [show (15+7+3 * 0:Int)=22 by decide];go_wp2_with fail;refine (vk _ p q _ _ HA12.out).mono ?_;rintro e _ ⟨rfl,rfl⟩;rw [pk10.2.1];go_wp2_with fail;refine (Pl.Qt 15 0 A0k A0k A0k A0k _).mono ?_;rintro e _ ⟨rfl,rfl⟩;rw [show (15+7+3 * 0:Int)=22 by decide];go_wp2_with fail;refine (vk _ p q _ _ HA12.out).mono ?_;rintro e _ ⟨rfl,rfl⟩;rw [pk10.2.2];go_wp2_with fail;go_ret;exact ⟨rfl,HG12.out⟩
end Go.Proofs.YtaccfepnhmgagaaGreatDoor.Cc_u
namespace Go.Proofs.YtaccfepnhmgagaaGreatDoor.Pick15
open Go.RowKit Go.Proofs.YtaccfepnhmgagaaGreatDoor.Ar Go.Proofs.YtaccfepnhmgagaaGreatDoor.Ref Go.Proofs.YtaccfepnhmgagaaGreatDoor.Mx Go.Proofs.YtaccfepnhmgagaaGreatDoor.Rf Go.Proofs.YtaccfepnhmgagaaGreatDoor.Ch
set_option linter.unusedVariables false
set_option linter.unusedSimpArgs false
def PickOk (c:Cf) (len:Nat) (k:Int):Prop:=0≤k∧k+7+3 * c.c≤len
theorem fN_map (L:List Int):L.flatMap fN=L.map (fun x=>Value.int .i64 x):=by
 induction L with
 | nil=>rfl
 | cons x r ih=>rw [List.flatMap_cons,ih];rfl
theorem fN_get {L:List Int} {k:Nat} {x:Int} (h:L[k]? = some x):(L.flatMap fN)[k]? = some (.int .i64 x):=by rw [fN_map,List.getElem?_map,h];rfl
theorem told_ok {c:Cf} {n len:Nat} {L:List Int} (hn:c.c=n) (h:Ch.Told len n L) {k:Nat} {x:Int} (hx:L[k]? = some x):PickOk c len x:=by have:=h.2 x (List.mem_of_getElem? hx);unfold Vw.Za at this;simp only [Bool.and_eq_true,decide_eq_true_eq] at this;unfold PickOk;omega
def pickV (c:Cf) (s:St) (i:Int):Int:=if (q79 (qw s.l) s.l.length c.c.toNat c.t).length=0 then 3+c.t+4+7 else (q79 (qw s.l) s.l.length c.c.toNat c.t).getD (i % ((q79 (qw s.l) s.l.length c.c.toNat c.t).length:Int)).toNat 0
set_option maxRecDepth 100000 in
set_option maxHeartbeats 1600000 in
theorem q98 (c:Cf) (hc:c.Ok) (i:Int) (hi:0≤i∧i≤255) (p q:Nat) (s:St) (w:World) (hA:Rar w p q s) (hl:(s.l.length:Int)=c.wd) :
  Calls Tryz.prog 12 #[c.val,.pointer (some ⟨p,0,none⟩),.int .u8 i] w fun e w'=>e = .returned (.int .i64 (pickV c s i))∧PickOk c s.l.length (pickV c s i)∧Fr [] w w':=by
 have F0:=(Fr.refl [] w).alloc (.cells #[.int .i64 c.t,.int .i64 c.c,.int .i64 c.wd,.int .i64 c.v] 23);have o1:=Ob.new w 23 #[.int .i64 c.t,.int .i64 c.c,.int .i64 c.wd,.int .i64 c.v];obtain ⟨n,hn⟩:∃ n:Nat,c.c=n:=⟨c.c.toNat,by have:=hc.c2;have:=hc.t1;omega⟩;have HC:=q9 (qc hc (qc hn (qc hi hl)));have hR:=hA.kept F0 A0h A0h;have HV:=q9 (show pickV c s i=if (q79 (qw s.l) s.l.length n c.t).length=0 then 3+c.t+4+7 else (q79 (qw s.l) s.l.length n c.t).getD (i % ((q79 (qw s.l) s.l.length n c.t).length:Int)).toNat 0 by unfold pickV;rw [hn];rfl);generalize pickV c s i=pv at *;unfold Cf.val;rw [hn] at o1 F0 hR ⊢;have HN:=q9 hn;clear hn hc hA hi hl;obtain ⟨c0,c1,c2,c3⟩:=Pl.yn o1;go_enter Tryz.func12,Tryz.ntmps12;go_wp2_with fail;generalize World.alloc w _=w1 at *;generalize w.heap.size=bc at *;refine (q9h c.t c.wd c.v n p q s w1 HC.out.1.t1 HC.out.1.t8 (by have:=HC.out.1.c2;have:=HC.out.1.t1;have:=HN.out;omega) (by have:=HC.out.1.c16;have:=HN.out;omega) hR).mono ?_;rintro e w2 ⟨⟨u,rfl,hu⟩,F2⟩;have hT:=q68 (qw s.l) s.l.length n c.t;generalize q79 (qw s.l) s.l.length n c.t=L at *;have G:=F0.trans F2;replace o1:=o1.up F2;obtain ⟨a2,k2,rfl,hk2,hm2,hh⟩:=Sq.own (f:=fN) hu;have HT:=q9 hT;have HG:=q9 G;clear hu hR F0 F2 c0 c1 c2 c3 G hT;unfold maxLen at hm2;by_cases h0:L.length=0
 ·have g:((L.length:Int) == 0)=true:=by simp [h0]
  obtain ⟨c0,c1,c2,c3⟩:=Pl.yn o1;clear hh;go_wp2_with fail;refine (Ref.Xb c.t n c.wd c.v HC.out.1.t1 HC.out.1.t8 _).mono ?_;rintro e w3 ⟨rfl,F3⟩;go_wp2_with fail;go_ret;have hpv:=HV.out;rw [qf h0] at hpv;rw [hpv];refine ⟨rfl,?_,HG.out.trans F3⟩;have h1:=HC.out.1.top;have h2:=HC.out.1.t1;have h3:=HC.out.2.2.2;unfold PickOk;omega
 ·have g:((L.length:Int) == 0)=false:=by simpa using h0
  have hi:=HC.out.2.2.1;obtain h0' | ⟨gb,off,rfl,hg,hcell⟩:=hh
  ·exact absurd h0' h0
  obtain ⟨j,hj⟩:∃ j:Nat,i % (L.length:Int)=j:=⟨(i % (L.length:Int)).toNat,by have:=Int.emod_nonneg i (show (L.length:Int)≠0 by omega);omega⟩;have hjl:j<L.length:=by have:=Int.emod_lt_of_pos i (show (0:Int)<L.length by omega);omega
  have htm:Int.tmod i (L.length:Int)=j:=by rw [Int.tmod_eq_emod_of_nonneg hi.1];exact hj
  have hx:L[j]? = some (L[j]'hjl):=List.getElem?_eq_getElem hjl;have HE:=q9 (show pv=L[j]'hjl by rw [HV.out,qd h0,hj];simp [List.getD_eq_getElem?_getD,hjl]);generalize L[j]'hjl=x at *;have hc:=hcell j _ (fN_get hx);have HX:=q9 (told_ok HC.out.2.1 HT.out hx);clear hcell hx h0;go_wp2_with fail;go_ret;rw [HE.out];exact ⟨rfl,HX.out,HG.out⟩
end Go.Proofs.YtaccfepnhmgagaaGreatDoor.Pick15
