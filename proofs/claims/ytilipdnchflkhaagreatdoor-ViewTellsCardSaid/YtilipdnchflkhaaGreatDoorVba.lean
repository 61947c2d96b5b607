/- Texts that this proof leans on, one behind the other: Build, View4, Rf6a, Rf6c, Rf6d, Known6. -/
import Derived.Test.YtilipdnchflkhaaGreatDoorVag
import Derived.Test.YtilipdnchflkhaaGreatDoorVap
import Derived.Test.YtilipdnchflkhaaGreatDoorVaq
import Derived.Test.YtilipdnchflkhaaGreatDoorVat
import Derived.Test.YtilipdnchflkhaaGreatDoorVay
import Derived.Test.YtilipdnchflkhaaGreatDoorVaz
set_option linter.unusedVariables false
set_option linter.unusedSimpArgs false
set_option maxRecDepth 100000
set_option maxHeartbeats 12800000
namespace Go.Proofs.YtilipdnchflkhaaGreatDoor.Mx
open Go.RowKit Go.Proofs.YtilipdnchflkhaaGreatDoor.Ar Go.Proofs.YtilipdnchflkhaaGreatDoor.Ref
def Bd.cells (x:Bd) (vv lv gv wv:Value):Array Value:=#[.int .i64 x.c.t,.int .i64 x.c.c,.int .i64 x.c.wd,.int .i64 x.c.v,.int .i64 x.chunk,.int .i64 x.mate,.int .i64 x.after,vv,.int .i64 x.line,.int .i64 x.i,.int .i64 x.mn,.int .i64 x.at_,.int .i64 x.x.k,.int .i64 x.x.v,.int .i64 x.x.d,lv,gv,wv,.int .i64 x.repl,.int .i64 x.e]
def BdOb (w:World) (b:Nat) (x:Bd) (vv lv gv wv:Value):Prop:=Ob w b 275 (x.cells vv lv gv wv)
theorem bd_cells {w:World} {b:Nat} {x:Bd} {vv lv gv wv:Value} (h:BdOb w b x vv lv gv wv):w.cell? ⟨b,0,none⟩=some (.int .i64 x.c.t)∧w.cell? ⟨b,1,none⟩=some (.int .i64 x.c.c)∧w.cell? ⟨b,2,none⟩=some (.int .i64 x.c.wd)∧w.cell? ⟨b,3,none⟩=some (.int .i64 x.c.v)∧w.cell? ⟨b,4,none⟩=some (.int .i64 x.chunk)∧w.cell? ⟨b,5,none⟩=some (.int .i64 x.mate)∧w.cell? ⟨b,6,none⟩=some (.int .i64 x.after)∧w.cell? ⟨b,7,none⟩=some vv∧w.cell? ⟨b,8,none⟩=some (.int .i64 x.line)∧w.cell? ⟨b,9,none⟩=some (.int .i64 x.i)∧w.cell? ⟨b,10,none⟩=some (.int .i64 x.mn)∧w.cell? ⟨b,11,none⟩=some (.int .i64 x.at_)∧w.cell? ⟨b,12,none⟩=some (.int .i64 x.x.k)∧w.cell? ⟨b,13,none⟩=some (.int .i64 x.x.v)∧w.cell? ⟨b,14,none⟩=some (.int .i64 x.x.d)∧w.cell? ⟨b,15,none⟩=some lv∧w.cell? ⟨b,16,none⟩=some gv∧w.cell? ⟨b,17,none⟩=some wv∧w.cell? ⟨b,18,none⟩=some (.int .i64 x.repl)∧w.cell? ⟨b,19,none⟩=some (.int .i64 x.e) :=
 ⟨h.cell rfl,h.cell rfl,h.cell rfl,h.cell rfl,h.cell rfl,h.cell rfl,h.cell rfl,h.cell rfl,h.cell rfl,h.cell rfl,h.cell rfl,h.cell rfl,h.cell rfl,h.cell rfl,h.cell rfl,h.cell rfl,h.cell rfl,h.cell rfl,h.cell rfl,h.cell rfl⟩
theorem Fr.two (b i j:Nat) (u v:Value) (w:World):Fr [b] w ((w.setCell ⟨b,i,none⟩ u).setCell ⟨b,j,none⟩ v):=(Fr.setCell _ (by simp)).setCell' _ (by simp)
theorem gr_base {w:World} {B:Nat} {ss:List Sv} {gs:List (List It)} (h:Gr w B ss gs):∀ s,s∈ss→∀ k,k∈s.v.ownBlock.toList→B≤k:=by
 intro s hs k hk
 obtain ⟨i,hi,rfl⟩:=List.getElem_of_mem hs
 obtain ⟨g,hg⟩:∃ g,gs[i]? = some g:=⟨gs[i]'(by rw [← h.1];exact hi),List.getElem?_eq_getElem _⟩
 exact row_base (h.2 i _ g (List.getElem?_eq_getElem hi) hg) k hk
theorem row_lt {w:World} {B sz n:Nat} {E:TypeId} {v:Value} {xs:List Value} (h:w.ownsRow B E sz v n xs):∀ k,k∈v.ownBlock.toList→k<w.heap.size:=fun k hk=>(h.lt k (by simpa using hk)).2
theorem gr_lt {w:World} {B:Nat} {ss:List Sv} {gs:List (List It)} (h:Gr w B ss gs):∀ s,s∈ss→∀ k,k∈s.v.ownBlock.toList→k<w.heap.size:=by
 intro s hs k hk
 obtain ⟨i,hi,rfl⟩:=List.getElem_of_mem hs
 obtain ⟨g,hg⟩:∃ g,gs[i]? = some g:=⟨gs[i]'(by rw [← h.1];exact hi),List.getElem?_eq_getElem _⟩
 exact row_lt (h.2 i _ g (List.getElem?_eq_getElem hi) hg) k hk
theorem keepS_len (vs:List Int):∀ s:List It,(keepS vs s).length≤s.length
 | []=>by simp [keepS]
 | x :: r=>by
  have:=keepS_len vs r
  unfold keepS
  split <;> simp <;> omega
theorem keepT_len (l:List It) (vs:List Int):(keepT l vs).length≤l.length:=by
 have:=keepS_len vs (sortT l);rw [sortT_length] at this;exact this
theorem build_on (x:Bd) (hc:x.c.Ok) (hi:-2≤x.i∧x.i≤40) (hl:x.l.length≤1000) (hvl:x.versions.length≤1000) (b:Nat) (w:World) (vv lv gv wv:Value) (h:BdOb w b x vv lv gv wv) (hV:Sq fI w vv x.versions) (hL:Sq fT w lv x.l) (nV:b∉vv.ownBlock.toList) (nL:b∉lv.ownBlock.toList) :
  Calls Tryz.prog 216 #[.pointer (some ⟨b,0,none⟩)] w fun e w'=>e = .returned (.tuple #[])∧(∃ gv',BdOb w' b x.on vv lv gv' wv∧((x.on.groups=x.groups∧gv'=gv)∨∃ ss,Sq fS w' gv' ss∧Gs w' ss x.on.groups∧(∀ k,k∈gv'.ownBlock.toList→w.heap.size≤k∧k<w'.heap.size)∧(∀ s,s∈ss→∀ k,k∈s.v.ownBlock.toList→w.heap.size≤k∧k<w'.heap.size)))∧Fr [b] w w':=by
 generalize hy:x.on=y
 have HY:=Lib.hid hy
 have HV:=Lib.hid (And.intro hV (And.intro hL (And.intro nV nL)))
 clear hy hV hL nV nL
 obtain ⟨c0,c1,c2,c3,c4,c5,c6,c7,c8,c9,c10,c11,c12,c13,c14,c15,c16,c17,c18,c19⟩:=bd_cells h
 have z:=h.frozen
 go_enter Tryz.func216,Tryz.ntmps216
 go_wp2_with fail
 have h1:BdOb _ b { x with i:=x.i+1,line:=2 } vv lv gv wv:=Ob.set (Ob.set h (i:=9) (.int .i64 (x.i+1))) (i:=8) (.int .i64 2)
 have D1:Fr [b] w ((w.setCell ⟨b,9,none⟩ (.int .i64 (x.i+1))).setCell ⟨b,8,none⟩ (.int .i64 2)):=(Fr.setCell _ (by simp)).setCell' _ (by simp)
 clear c0 c1 c2 c3 c4 c5 c6 c7 c8 c9 c10 c11 c12 c13 c14 c15 c16 c17 c18 c19 z h
 generalize ((w.setCell ⟨b,9,none⟩ (.int .i64 (x.i+1))).setCell ⟨b,8,none⟩ (.int .i64 2))=w1 at *
 obtain ⟨c0,c1,c2,c3,-,c5,-,-,-,c9,-,-,-,-,-,-,-,-,-,-⟩:=bd_cells h1
 have k0:=In.cell c0
 have k1:=In.cell c1
 have k2:=In.cell c2
 have k3:=In.cell c3
 have k5:=In.cell c5
 have k9:=In.cell c9
 clear c0 c1 c2 c3 c5 c9
 refine wi ?_
 repeat (go_big_quiet_step ((go_at_call 210;exact Calls.in_ (cellsP_any x.c _ hc _))))
 refine wpQuiet_nil ?_
 intro w2 F2
 have h2:BdOb w2 b { x with i:=x.i+1,line:=2 } vv lv gv wv:=Ob.up h1 F2
 have D2:=D1.then F2
 clear h1 D1 F2 k0 k1 k2 k3 k5 k9
 by_cases hv:cellsP x.c x.mate≤x.i+1
 ·have hn:y = { x with i:=x.i+1,groups:=splitT (keepT x.l x.versions) x.c.c,line:=5 }:=by rw [← HY.out];unfold Bd.on;simp [hv]
  subst hn
  obtain ⟨c0,c1,c2,c3,c4,c5,c6,c7,c8,c9,c10,c11,c12,c13,c14,c15,c16,c17,c18,c19⟩:=bd_cells h2
  have z:=h2.frozen
  go_wp2_with fail
  have V2:=HV.out.1.kept D2 (fun k hk hi=>by simp at hi;subst hi;exact HV.out.2.2.1 hk)
  have L2:=HV.out.2.1.kept D2 (fun k hk hi=>by simp at hi;subst hi;exact HV.out.2.2.2 hk)
  have HO2:=Lib.hid h2
  clear c0 c1 c2 c3 c4 c5 c6 c7 c8 c9 c10 c11 c12 c13 c14 c15 c16 c17 c18 c19
  refine wp_region_free (by kernel_rfl) ?_
  refine any_envL [] w2 #[true,true,true,true,true,true,true,true,true,true,true,true,true,true,true,true,false,false,false] 16 3 rfl ?_
  refine lp [true,true,true,true,true,true,true,true,true,false,true,true,true,true,true,false,false,false,false] 2 ((Fr.refl _ _).drew) ?_
  apply Exists.intro
  refine ⟨fun wf Ff=>?_,?_⟩
  ·obtain ⟨c0,c1,c2,c3,-,-,-,c7,-,-,-,-,-,-,-,c15,-,-,-,-⟩:=bd_cells (Ob.up h2 Ff)
   have j1:=In.cell c1
   have j7:=In.cell c7
   have j15:=In.cell c15
   clear c0 c1 c2 c3 c7 c15
   simp only [sel]
   repeat (go_big_quiet_step (fail))
   exact wpQuiet_nil rfl
  refine lo 9 (fun w3 F3=>?_)
  have G3:=((Fr.refl [] w2).drew).trans F3
  go_wp2_with fail
  refine (keep_any x.l x.versions lv vv _ hl hvl (L2.up G3) (V2.up G3)).mono ?_
  rintro e w4 ⟨⟨r,rfl,r4⟩,F4⟩
  have G4:=G3.trans F4
  clear F3 F4 G3
  go_wp2_with fail
  refine nx_normal ⟨G4,?_⟩
  refine lo 15 (fun w5 F5=>?_)
  have G5:=G4.trans F5
  have r5:=row_keeps r4 F5
  clear F5 G4 r4
  have HKL:=keepT_len x.l x.versions
  generalize hkt:keepT x.l x.versions=kt at *
  have HKT:=Lib.hid hkt
  clear hkt
  go_wp2_with fail
  refine (split_any kt x.c.c r _ (by omega) (Sq.own (f:=fT) r5)).mono ?_
  rintro e w6 ⟨⟨u,ss,rfl,hss,r6,g6⟩,F6⟩
  have G6:=G5.trans F6
  have HSS:=Lib.hid hss
  clear hss
  clear F6 r5
  go_wp2_with fail
  refine nx_normal ⟨G6,?_⟩
  refine envL_tail (k:=16) rfl (by kernel_rfl) (fun w7 F7=>?_)
  have G7:=G6.trans F7
  have h7:=Ob.up h2 G7
  have r7:=row_keeps r6 F7
  have g7:=g6.gs.up F7
  have z:=h7.frozen
  obtain ⟨c0,c1,c2,c3,c4,c5,c6,c7,c8,c9,c10,c11,c12,c13,c14,c15,c16,c17,c18,c19⟩:=bd_cells h7
  have HG:=Lib.hid g6
  have HF7:=Lib.hid F7.size
  have HB:=Lib.hid G5.size
  obtain ⟨ua,uc,rfl,-,-,-⟩:=id (Sq.own (f:=fS) r7)
  have HW7:=Lib.hid (And.intro h7 (And.intro r7 (And.intro g7 G7)))
  clear F7 G6 h2 r6 g6 h7 r7 g7 G7
  go_wp2_with fail
  go_end0
  exact ⟨rfl,⟨_,Ob.set (Ob.set HW7.out.1 (i:=16) _) (i:=8) _,.inr ⟨ss,(Sq.own (f:=fS) HW7.out.2.1).kept (Fr.two b 16 8 _ _ _) (fun k hk hi=>by simp at hi;subst hi;exact row_ne HW7.out.2.1 HW7.out.1 (by decide) hk),by rw [HKT.out];exact HW7.out.2.2.1.kept (Fr.two b 16 8 _ _ _) (fun s hs k hk hi=>by have hi2:k=b:=(by simpa using hi);have h1:=gr_base HG.out s hs k hk;have h2:=HB.out;have h3:=Ob.lt HO2.out;omega),fun k hk=>⟨Nat.le_trans (Nat.le_trans D2.size HB.out) (row_base HW7.out.2.1 k (by simpa using hk)),Nat.lt_of_lt_of_le (row_lt HW7.out.2.1 k (by simpa using hk)) (Fr.two b 16 8 _ _ _).size⟩,fun s hs k hk=>⟨Nat.le_trans (Nat.le_trans D2.size HB.out) (gr_base HG.out s hs k (by simpa using hk)),Nat.lt_of_lt_of_le (gr_lt HG.out s hs k (by simpa using hk)) (Nat.le_trans HF7.out (Fr.two b 16 8 _ _ _).size)⟩⟩⟩,(D2.then HW7.out.2.2.2).trans (Fr.two b 16 8 _ _ _)⟩
 ·have hn:y = { x with i:=x.i+1,line:=2 }:=by rw [← HY.out];unfold Bd.on;simp [hv]
  subst hn
  go_wp2_with fail
  go_end0
  exact ⟨rfl,⟨gv,h2,.inl rfl⟩,D2⟩
end Go.Proofs.YtilipdnchflkhaaGreatDoor.Mx
namespace Go.Proofs.YtilipdnchflkhaaGreatDoor.Vw
open Go.RowKit Go.Proofs.YtilipdnchflkhaaGreatDoor.Ar Go.Proofs.YtilipdnchflkhaaGreatDoor.Mx
def Hd.word (h:Hd):Nat→Int
 | 0=>h.mn
 | 1=>h.ct
 | 2=>h.nx
 | 3=>h.ld
 | 4=>h.mt
 | 5=>h.rp
 | _=>h.st
def layHN (s:St) (h:Hd):Nat→St
 | 0=>s
 | i+1=>(layHN s h i).poke (h.at_+i) (h.word i)
def layCsN (s:St) (a:Int) (cs:List Ce):Nat→St
 | 0=>s
 | i+1=>layC (layCsN s a cs i) (a+7+3 * i) (cs.getD i ⟨0,0,0⟩)
def layS (s:St) (h:Hd) (cs:List Ce):St:=layCsN (layHN s h 7) h.at_ cs cs.length
def LhAt (w:World) (s:St) (h:Hd) (p q:Nat) (u:Value) (wr:World):Prop:=∃ i,i≤7∧u = .int .i64 (i:Nat)∧Ar wr p q (layHN s h i)∧Fr [q] w wr
def LkAt (w:World) (s:St) (a:Int) (cs:List Ce) (p q:Nat) (u:Value) (wr:World):Prop:=∃ i,i≤cs.length∧u = .int .i64 (i:Nat)∧Ar wr p q (layCsN s a cs i)∧Fr [q] w wr
theorem frField (a0 a1 a2 a3 a4 a5 a6 a7:Value) (W:World):(Instr.field 141 (.agg #[a0,a1,a2,a3,a4,a5,a6,a7]) 1).run Tryz.prog W = .ok (.agg #[a1,a2,a3,a4,a5,a6,a7]) W:=by kernel_rfl
theorem ix7 (a0 a1 a2 a3 a4 a5 a6:Value) (W:World):(Instr.index 139 (.agg #[a0,a1,a2,a3,a4,a5,a6]) (.int .i64 0)).run Tryz.prog W = .ok a0 W∧(Instr.index 139 (.agg #[a0,a1,a2,a3,a4,a5,a6]) (.int .i64 1)).run Tryz.prog W = .ok a1 W∧(Instr.index 139 (.agg #[a0,a1,a2,a3,a4,a5,a6]) (.int .i64 2)).run Tryz.prog W = .ok a2 W∧(Instr.index 139 (.agg #[a0,a1,a2,a3,a4,a5,a6]) (.int .i64 3)).run Tryz.prog W = .ok a3 W∧(Instr.index 139 (.agg #[a0,a1,a2,a3,a4,a5,a6]) (.int .i64 4)).run Tryz.prog W = .ok a4 W∧(Instr.index 139 (.agg #[a0,a1,a2,a3,a4,a5,a6]) (.int .i64 5)).run Tryz.prog W = .ok a5 W∧(Instr.index 139 (.agg #[a0,a1,a2,a3,a4,a5,a6]) (.int .i64 6)).run Tryz.prog W = .ok a6 W :=
 ⟨by kernel_rfl,by kernel_rfl,by kernel_rfl,by kernel_rfl,by kernel_rfl,by kernel_rfl,by kernel_rfl⟩
theorem hdBd {n:Nat} {c a:Int} (h:thereB n c a=true):0≤a∧a≤n - (7+3 * c):=by unfold thereB at h;simpa using h
theorem two_boxes (w:World) (t n wd v:Int) (h:Hd) (lv:Value):Fr [] w ((w.alloc (.cells #[.int .i64 t,.int .i64 n,.int .i64 wd,.int .i64 v] 23)).alloc (.cells (chC h lv) 70)) ∧
  Ob ((w.alloc (.cells #[.int .i64 t,.int .i64 n,.int .i64 wd,.int .i64 v] 23)).alloc (.cells (chC h lv) 70)) w.heap.size 23 #[.int .i64 t,.int .i64 n,.int .i64 wd,.int .i64 v] ∧
  Ob ((w.alloc (.cells #[.int .i64 t,.int .i64 n,.int .i64 wd,.int .i64 v] 23)).alloc (.cells (chC h lv) 70)) (w.heap.size+1) 70 (chC h lv) :=
 ⟨((Fr.refl [] w).alloc _).alloc _,(Ob.new w _ _).alloc _,Ob.newAt (sizeA _ _) _ _⟩
theorem lay_form (t wd v n:Int) (h:Hd) (cs:List Ce) (lv:Value) (p q:Nat) (w:World) (hn:(cs.length:Int)≠n) (hl:cs.length≤1000) (hs:Sq fC w lv cs) :
  Calls Tryz.prog 47 #[.agg #[.int .i64 t,.int .i64 n,.int .i64 wd,.int .i64 v],.pointer (some ⟨p,0,none⟩),chV h lv] w fun e w'=>e = .returned (.iface 133 (.int .i64 10))∧Fr [] w w':=by
 have isE:=Er.isE
 obtain ⟨a,cap,rfl,-,-,-⟩:=hs
 obtain ⟨F1,o0,o1⟩:=two_boxes w t n wd v h (.slice a cs.length cap)
 obtain ⟨-,k1,-,-⟩:=Pl.cells4 o0
 obtain ⟨-,-,-,-,-,-,-,-,q8⟩:=ch_cells o1
 have g:((cs.length:Int) != n)=true:=by simpa using hn
 unfold chV
 unfold chC at F1 o0 o1 k1 q8
 clear o0 o1 hn
 go_enter Tryz.func47,Tryz.ntmps47
 go_wp2
 go_ret
 exact ⟨rfl,F1⟩
theorem lay_place (t wd v:Int) (n:Nat) (h:Hd) (cs:List Ce) (lv:Value) (p q:Nat) (s:St) (w:World) (h1:1≤n) (h2:n≤16) (h3:n≤s.l.length) (h4:s.l.length≤20000) (hA:Ar w p q s) (hn:cs.length=n) (hs:Sq fC w lv cs) (ht:thereB s.l.length n h.at_=false) :
  Calls Tryz.prog 47 #[.agg #[.int .i64 t,.int .i64 n,.int .i64 wd,.int .i64 v],.pointer (some ⟨p,0,none⟩),chV h lv] w fun e w'=>e = .returned (.iface 133 (.int .i64 11))∧Fr [] w w':=by
 have isE:=Er.isE
 obtain ⟨a,cap,rfl,-,-,-⟩:=hs
 obtain ⟨F1,o0,o1⟩:=two_boxes w t n wd v h (.slice a cs.length cap)
 obtain ⟨k0,k1,k2,k3⟩:=Pl.cells4 o0
 obtain ⟨q0,-,-,-,-,-,-,-,q8⟩:=ch_cells o1
 have g:((cs.length:Int) != n)=false:=by simp [hn]
 have A1:=hA.kept F1
 have HT:=Lib.hid ht
 have HN:=Lib.hid hn
 unfold chV
 unfold chC at F1 o0 o1 k0 k1 k2 k3 q0 q8 A1
 clear o0 o1 hn ht
 go_enter Tryz.func47,Tryz.ntmps47
 go_wp2_with fail
 refine (there_any t n wd v h.at_ p q s _ (by omega) (by omega) (by omega) h4 A1).mono ?_;rintro e w2 ⟨rfl,F2⟩
 rw [HT.out]
 clear k0 k1 k2 k3 q0 q8
 go_wp2
 go_ret
 exact ⟨rfl,F1.trans F2⟩
theorem lay_yes (t wd v:Int) (n:Nat) (h:Hd) (cs:List Ce) (lv:Value) (p q:Nat) (s:St) (w:World) (h1:1≤n) (h2:n≤16) (h3:n≤s.l.length) (h4:s.l.length≤20000) (hA:Ar w p q s) (hn:cs.length=n) (hs:Sq fC w lv cs) (hq:q∉lv.ownBlock.toList) (ht:thereB s.l.length n h.at_=true) :
  Calls Tryz.prog 47 #[.agg #[.int .i64 t,.int .i64 n,.int .i64 wd,.int .i64 v],.pointer (some ⟨p,0,none⟩),chV h lv] w fun e w'=>e = .returned .nilIface∧Ar w' p q (layS s h cs)∧Fr [q] w w':=by
 have hbd:=hdBd ht
 obtain ⟨a,cap,rfl,hcap,hmax,-⟩:=id hs
 obtain ⟨F1,o0,o1⟩:=two_boxes w t n wd v h (.slice a cs.length cap)
 obtain ⟨k0,k1,k2,k3⟩:=Pl.cells4 o0
 obtain ⟨q0,q1,q2,q3,q4,q5,q6,q7,q8⟩:=ch_cells o1
 have g:((cs.length:Int) != n)=false:=by simp [hn]
 have A1:=hA.kept F1
 have hpq:=hA.lt
 have HT:=Lib.hid ht
 have HN:=Lib.hid hn
 have hff:=frField
 unfold chV
 unfold chC at F1 o0 o1 k0 k1 k2 k3 q0 q1 q2 q3 q4 q5 q6 q7 q8 A1
 clear o0 hn ht hA
 go_enter Tryz.func47,Tryz.ntmps47
 go_wp2_with fail
 refine (there_any t n wd v h.at_ p q s _ (by omega) (by omega) (by omega) h4 A1).mono ?_;rintro e w2 ⟨rfl,F2⟩
 rw [HT.out]
 replace A1:=A1.kept F2
 replace o1:=o1.up F2
 replace F1:=F1.trans F2
 clear k0 k1 k2 k3 q0 q1 q2 q3 q4 q5 q6 q7 q8 F2
 obtain ⟨q0,q1,q2,q3,q4,q5,q6,q7,q8⟩:=ch_cells (lv:=.slice a cs.length cap) o1
 go_wp2_with fail
 refine (frameOf_of _ _ _ _ _ _ _ _ _ _).mono ?_;rintro e w3 ⟨rfl,F3⟩
 replace A1:=A1.kept F3
 replace o1:=o1.up F3
 replace F1:=F1.trans F3
 clear q0 q1 q2 q3 q4 q5 q6 q7 q8 F3
 go_wp2_with fail
 clear hff
 go_loopw [30] (LhAt w3 s h p q) (fun u _=>7 - (intOf u).toNat)
 case atStart=>exact ⟨0,by omega,rfl,A1,Fr.refl _ _⟩
 case round =>
  obtain ⟨i,hi,rfl,A,F⟩:=hrel
  have hc:i=0∨i=1∨i=2∨i=3∨i=4∨i=5∨i=6∨i=7:=by omega
  clear A1
  rcases hc with rfl | rfl | rfl | rfl | rfl | rfl | rfl | rfl
  ·have xk:=fun W=>(ix7 (.int .i64 h.mn) (.int .i64 h.ct) (.int .i64 h.nx) (.int .i64 h.ld) (.int .i64 h.mt) (.int .i64 h.rp) (.int .i64 h.st) W).1
   obtain ⟨q0,-,-,-,-,-,-,-,-⟩:=ch_cells (lv:=.slice a cs.length cap) (o1.kept F (by simp;omega))
   go_wp2_with fail
   refine (poke_any _ p q _ _ _ A).mono ?_;rintro e w5 ⟨rfl,A5,F5⟩
   clear xk q0
   go_wp2_with fail
   go_roundw
   case rel=>exact ⟨1,by omega,by go_num,by simpa [layHN,Hd.word] using A5,F.trans F5⟩
   case measure=>simp [intOf]
  ·have xk:=fun W=>(ix7 (.int .i64 h.mn) (.int .i64 h.ct) (.int .i64 h.nx) (.int .i64 h.ld) (.int .i64 h.mt) (.int .i64 h.rp) (.int .i64 h.st) W).2.1
   obtain ⟨q0,-,-,-,-,-,-,-,-⟩:=ch_cells (lv:=.slice a cs.length cap) (o1.kept F (by simp;omega))
   go_wp2_with fail
   refine (poke_any _ p q _ _ _ A).mono ?_;rintro e w5 ⟨rfl,A5,F5⟩
   clear xk q0
   go_wp2_with fail
   go_roundw
   case rel=>exact ⟨2,by omega,by go_num,by simpa [layHN,Hd.word] using A5,F.trans F5⟩
   case measure=>simp [intOf]
  ·have xk:=fun W=>(ix7 (.int .i64 h.mn) (.int .i64 h.ct) (.int .i64 h.nx) (.int .i64 h.ld) (.int .i64 h.mt) (.int .i64 h.rp) (.int .i64 h.st) W).2.2.1
   obtain ⟨q0,-,-,-,-,-,-,-,-⟩:=ch_cells (lv:=.slice a cs.length cap) (o1.kept F (by simp;omega))
   go_wp2_with fail
   refine (poke_any _ p q _ _ _ A).mono ?_;rintro e w5 ⟨rfl,A5,F5⟩
   clear xk q0
   go_wp2_with fail
   go_roundw
   case rel=>exact ⟨3,by omega,by go_num,by simpa [layHN,Hd.word] using A5,F.trans F5⟩
   case measure=>simp [intOf]
  ·have xk:=fun W=>(ix7 (.int .i64 h.mn) (.int .i64 h.ct) (.int .i64 h.nx) (.int .i64 h.ld) (.int .i64 h.mt) (.int .i64 h.rp) (.int .i64 h.st) W).2.2.2.1
   obtain ⟨q0,-,-,-,-,-,-,-,-⟩:=ch_cells (lv:=.slice a cs.length cap) (o1.kept F (by simp;omega))
   go_wp2_with fail
   refine (poke_any _ p q _ _ _ A).mono ?_;rintro e w5 ⟨rfl,A5,F5⟩
   clear xk q0
   go_wp2_with fail
   go_roundw
   case rel=>exact ⟨4,by omega,by go_num,by simpa [layHN,Hd.word] using A5,F.trans F5⟩
   case measure=>simp [intOf]
  ·have xk:=fun W=>(ix7 (.int .i64 h.mn) (.int .i64 h.ct) (.int .i64 h.nx) (.int .i64 h.ld) (.int .i64 h.mt) (.int .i64 h.rp) (.int .i64 h.st) W).2.2.2.2.1
   obtain ⟨q0,-,-,-,-,-,-,-,-⟩:=ch_cells (lv:=.slice a cs.length cap) (o1.kept F (by simp;omega))
   go_wp2_with fail
   refine (poke_any _ p q _ _ _ A).mono ?_;rintro e w5 ⟨rfl,A5,F5⟩
   clear xk q0
   go_wp2_with fail
   go_roundw
   case rel=>exact ⟨5,by omega,by go_num,by simpa [layHN,Hd.word] using A5,F.trans F5⟩
   case measure=>simp [intOf]
  ·have xk:=fun W=>(ix7 (.int .i64 h.mn) (.int .i64 h.ct) (.int .i64 h.nx) (.int .i64 h.ld) (.int .i64 h.mt) (.int .i64 h.rp) (.int .i64 h.st) W).2.2.2.2.2.1
   obtain ⟨q0,-,-,-,-,-,-,-,-⟩:=ch_cells (lv:=.slice a cs.length cap) (o1.kept F (by simp;omega))
   go_wp2_with fail
   refine (poke_any _ p q _ _ _ A).mono ?_;rintro e w5 ⟨rfl,A5,F5⟩
   clear xk q0
   go_wp2_with fail
   go_roundw
   case rel=>exact ⟨6,by omega,by go_num,by simpa [layHN,Hd.word] using A5,F.trans F5⟩
   case measure=>simp [intOf]
  ·have xk:=fun W=>(ix7 (.int .i64 h.mn) (.int .i64 h.ct) (.int .i64 h.nx) (.int .i64 h.ld) (.int .i64 h.mt) (.int .i64 h.rp) (.int .i64 h.st) W).2.2.2.2.2.2
   obtain ⟨q0,-,-,-,-,-,-,-,-⟩:=ch_cells (lv:=.slice a cs.length cap) (o1.kept F (by simp;omega))
   go_wp2_with fail
   refine (poke_any _ p q _ _ _ A).mono ?_;rintro e w5 ⟨rfl,A5,F5⟩
   clear xk q0
   go_wp2_with fail
   go_roundw
   case rel=>exact ⟨7,by omega,by go_num,by simpa [layHN,Hd.word] using A5,F.trans F5⟩
   case measure=>simp [intOf]
  ·rw [show ((7:Nat):Int)=7 from rfl]
   have o4:=o1.kept F (by simp;omega)
   have hs4:=(hs.up F1).kept F (fun g hg hi=>hq (by rw [List.mem_singleton.1 hi] at hg;exact hg))
   have G:=(F1.mono (T:=[q]) (by simp)).trans F
   have A4:=A
   clear o1 hs F A F1
   obtain ⟨q0,-,-,-,-,-,-,-,q8⟩:=ch_cells (lv:=.slice a cs.length cap) o4
   go_wp2_with fail
   clear q0 q8
   go_loopw [45] (LkAt wr (layHN s h 7) h.at_ cs p q) (fun u _=>cs.length - (intOf u).toNat)
   case atStart=>exact ⟨0,by omega,rfl,A4,Fr.refl _ _⟩
   case round =>
    obtain ⟨i,hi,rfl,A,F⟩:=hrel
    by_cases hlt:i<cs.length
    ·obtain ⟨x,hx⟩:∃ x,cs[i]? = some x:=⟨cs[i],List.getElem?_eq_getElem hlt⟩
     have hs5:=hs4.kept F (fun g hg hi=>hq (by rw [List.mem_singleton.1 hi] at hg;exact hg))
     obtain ⟨g5,off,rfl,d0,d1,d2⟩:=ce_cells hs5 hx
     have F6:=(Fr.refl [] wr).alloc (.cells #[.int .i64 x.s,.int .i64 x.k,.int .i64 x.d] 131)
     have o6:=Ob.new wr 131 #[.int .i64 x.s,.int .i64 x.k,.int .i64 x.d]
     have A6:=A.kept F6
     have o5:=(o4.kept F (by simp;omega)).up F6
     have hq6:q<wr.heap.size:=A.lt.2
     have hcl:cs.length≤16:=by have:=HN.out;omega
     have HX:=Lib.hid hx
     clear hx hs5
     go_wp2_with fail
     clear d0 d1 d2
     refine wp_region_env (by kernel_rfl) [q] (fun w2 F2=>?_)
     refine ep [true,true,true,true,true,true,false] 1 (F2.mono) ?_
     apply Exists.intro
     refine ⟨fun wf Ff=>?_,?_⟩
     ·have k0:=In.cell ((o5.kept Ff (by simp;omega)).cell (i:=0) rfl)
      have o7:=o6.kept Ff (by simp;omega)
      have l0:=In.cell (o7.cell (i:=0) rfl)
      have l1:=In.cell (o7.cell (i:=1) rfl)
      have l2:=In.cell (o7.cell (i:=2) rfl)
      clear o7
      simp only [sel]
      repeat (go_big_quiet_step ((go_at_call 65;exact Calls.in_same (Pl.state_any h.at_ i hbd.1 (by omega) (by omega) (by omega) _))))
      exact wpQuiet_nil rfl
     refine eo 6 (fun w7 F7=>?_)
     have E:=F2.trans F7
     replace A6:=A6.kept E
     have FW:=F.trans ((F6.trans E).mono (T:=[q]) (by simp))
     clear F2 F7 o5 o6 F6
     go_wp2_with fail
     refine (layCell_any _ x p q _ _ (by omega) (by omega) A6).mono ?_;rintro e w8 ⟨rfl,A8,F8⟩
     go_wp2_with fail
     refine nx_normal ⟨(E.mono).trans F8,?_⟩
     refine env_done (by kernel_rfl) (fun w9 F9=>?_)
     have A9:=A8.kept F9
     replace FW:=(FW.trans F8).then F9
     clear A8 F8 F9 E A6
     go_wp2
     exact ⟨⟨i+1,by omega,by go_num,by
      have e:cs.getD i ⟨0,0,0⟩=x:=by rw [List.getD_eq_getElem?_getD,HX.out];rfl
      simp only [layCsN];rw [e];exact A9,FW⟩,by simp [intOf];omega⟩
    ·obtain rfl:i=cs.length:=by omega
     go_wp2
     go_ret
     exact ⟨rfl,A,G.trans F⟩
end Go.Proofs.YtilipdnchflkhaaGreatDoor.Vw
namespace Go.Proofs.YtilipdnchflkhaaGreatDoor.Vw
open Go.RowKit Go.Proofs.YtilipdnchflkhaaGreatDoor.Ar Go.Proofs.YtilipdnchflkhaaGreatDoor.Mx Go.Proofs.YtilipdnchflkhaaGreatDoor.Ref
theorem rfits_any (t c wd v a:Int) (p q:Nat) (s:St) (w:World) (h1:1≤c) (h2:c≤16) (h3:c≤s.l.length) (h4:s.l.length≤20000) (hA:Rar w p q s) :
  Calls Tryz.prog 89 #[.agg #[.int .i64 t,.int .i64 c,.int .i64 wd,.int .i64 v],.pointer (some ⟨p,0,none⟩),.int .i64 a] w fun e w'=>e = .returned (.bool (thereB s.l.length c a))∧Fr [] w w':=by
 have F0:=(Fr.refl [] w).alloc (.cells #[.int .i64 t,.int .i64 c,.int .i64 wd,.int .i64 v] 23)
 obtain ⟨c0,c1,c2,c3⟩:=Pl.cells4 (Go.heap_alloc_new w (.cells #[.int .i64 t,.int .i64 c,.int .i64 wd,.int .i64 v] 23))
 obtain ⟨cap,hcap,ac,-⟩:=rarCells (hA.kept F0)
 have hr:thereB s.l.length c a=(decide (0≤a) && decide (a≤(s.l.length:Int) - (7+3 * c))):=rfl
 have k0:=In.cell c0
 have k1:=In.cell c1
 have k2:=In.cell c2
 have k3:=In.cell c3
 have k4:=In.cell ac
 clear c0 c1 c2 c3 ac
 by_cases g3:0≤a
 ·have g3':decide (a≥0)=true:=by simpa using g3
  rw [hr,show decide (0≤a)=true from g3',Bool.true_and]
  clear hr
  go_enter Tryz.func89,Tryz.ntmps89
  go_wp2_with fail
  refine wi ?_
  repeat (go_big_quiet_step ((first | (go_at_call 101;exact Calls.in_ (Ref.size_any t c wd v h1 h2 _)))))
  refine wpQuiet_nil ?_
  intro w2 F2
  clear k0 k1 k2 k3 k4
  go_wp2
  go_ret
  exact ⟨rfl,F0.trans F2⟩
 ·have g3':decide (a≥0)=false:=by simpa using g3
  rw [hr,show decide (0≤a)=false from g3',Bool.false_and]
  clear hr
  go_enter Tryz.func89,Tryz.ntmps89
  go_wp2_with fail
  refine wi ?_
  repeat (go_big_quiet_step ((first | (go_at_call 101;exact Calls.in_ (Ref.size_any t c wd v h1 h2 _)))))
  refine wpQuiet_nil ?_
  intro w2 F2
  clear k0 k1 k2 k3 k4
  go_wp2
  go_ret
  exact ⟨rfl,F0.trans F2⟩
theorem peek_nat {l:List Int} {k:Nat} (h:k<l.length):peek l (k:Int)=nth l k:=peek_at h
theorem Fr.ownS {S T:List Nat} {a b c:World} (h:Fr S a b) (k:Fr T b c) (hs:∀ i,i∈T→a.heap.size≤i):Fr S a c :=
 ⟨k.os.trans h.os,k.tape.trans h.tape,k.output.trans h.output,Nat.le_trans h.size k.size,fun i hi hn=>(k.block i (Nat.lt_of_lt_of_le hi h.size) (fun ht=>by have:=hs i ht;omega)).trans (h.block i hi hn)⟩
def RcAt (w0:World) (h:Hd) (cs:List Ce) (bx:Nat) (x y:Value) (wr:World):Prop:=∃ (i:Nat) (u:Value),i≤cs.length∧x = .int .i64 i∧Ob wr bx 70 (chC h u)∧wr.ownsRow w0.heap.size 131 3 u (cs.take i).length ((cs.take i).flatMap fC)∧Fr [bx] w0 wr
theorem rchunk_yes (t wd v:Int) (an n p q:Nat) (s:St) (w:World) (h1:1≤n) (h2:n≤16) (h3:n≤s.l.length) (h4:s.l.length≤20000) (hA:Rar w p q s) (ht:thereB s.l.length n (an:Int)=true) :
  Calls Tryz.prog 41 #[.agg #[.int .i64 t,.int .i64 n,.int .i64 wd,.int .i64 v],.pointer (some ⟨p,0,none⟩),.int .i64 (an:Int)] w fun e w'=>(∃ u,e = .returned (.tuple #[chV (headOf s.l an) u,.int .i64 0])∧Sq fC w' u (cellsOf s.l an n))∧Fr [] w w':=by
 have hlen:(cellsOf s.l an n).length=n:=by unfold cellsOf;simp
 have ha:an+(7+3 * n)≤s.l.length:=by unfold thereB at ht;simp at ht;omega
 have F0:=((Fr.refl [] w).alloc (.cells #[.int .i64 t,.int .i64 n,.int .i64 wd,.int .i64 v] 23))
 have o0:=Ob.new w 23 #[.int .i64 t,.int .i64 n,.int .i64 wd,.int .i64 v]
 have o1:=Ob.newAt (sizeA w (.cells #[.int .i64 t,.int .i64 n,.int .i64 wd,.int .i64 v] 23)) 70 #[.int .i64 0,.int .i64 0,.int .i64 0,.int .i64 0,.int .i64 0,.int .i64 0,.int .i64 0,.int .i64 0,.slice none 0 0]
 have F1:=F0.alloc (.cells #[.int .i64 0,.int .i64 0,.int .i64 0,.int .i64 0,.int .i64 0,.int .i64 0,.int .i64 0,.int .i64 0,.slice none 0 0] 70)
 have o2:=o0.alloc (.cells #[.int .i64 0,.int .i64 0,.int .i64 0,.int .i64 0,.int .i64 0,.int .i64 0,.int .i64 0,.int .i64 0,.slice none 0 0] 70)
 clear F0 o0
 go_enter Tryz.func41,Tryz.ntmps41
 go_wp2_with fail
 generalize World.alloc (World.alloc w _) _=w1 at *
 refine (rfits_any t n wd v an p q s _ (by omega) (by omega) (by omega) h4 (hA.kept F1)).mono ?_;rintro e w2 ⟨rfl,F2⟩
 rw [ht]
 clear ht
 have A2:=hA.kept (F1.trans F2) (by simp) (by simp)
 replace o1:=o1.up F2
 replace o2:=o2.up F2
 replace F1:=F1.trans F2
 have hpq:=hA.lt
 clear F2 hA
 obtain ⟨cap,hcap,ac,-,-,-,-,-,-,aw⟩:=rarCells A2
 go_wp2_with fail
 refine wp_region_env (by kernel_rfl) [] (fun w3 F3=>?_)
 refine ep [true,true,true,true,true,true,true,true,true,true,true,true,true,true,true,true,true,true,true,true,true,true,true,true,true,true,true,true,true,true,true,true,true,true,true,true,true,false,false] 2 (F3.mono) ?_
 apply Exists.intro
 refine ⟨fun wf Ff=>?_,?_⟩
 ·have j:=fun k hk=>Ff.cell (aw k hk) (by simp)
  have k0:=In.cell (j an (by omega))
  have k1:=In.cell (j (an+1) (by omega))
  have k2:=In.cell (j (an+2) (by omega))
  have k3:=In.cell (j (an+3) (by omega))
  have k4:=In.cell (j (an+4) (by omega))
  have k5:=In.cell (j (an+5) (by omega))
  have k6:=In.cell (j (an+6) (by omega))
  clear j
  have b0:an<s.l.length:=by omega
  have b1:an+1<s.l.length:=by omega
  have b2:an+2<s.l.length:=by omega
  have b3:an+3<s.l.length:=by omega
  have b4:an+4<s.l.length:=by omega
  have b5:an+5<s.l.length:=by omega
  have b6:an+6<s.l.length:=by omega
  simp only [sel]
  repeat (go_big_quiet_step (fail))
  exact wpQuiet_nil rfl
 refine eo 37 (fun w4 F4=>?_)
 have E:=F3.trans F4
 have G:=F1.trans E
 have o4:=Ob.new w4 70 #[.int .i64 0,.int .i64 0,.int .i64 0,.int .i64 0,.int .i64 0,.int .i64 0,.int .i64 0,.int .i64 0,.slice none 0 0]
 have F5:=(Fr.refl [] w4).alloc (.cells #[.int .i64 0,.int .i64 0,.int .i64 0,.int .i64 0,.int .i64 0,.int .i64 0,.int .i64 0,.int .i64 0,.slice none 0 0] 70)
 have h12:=o1.lt
 have hw4:=E.size
 have hw24:=G.size
 replace o1:=(o1.up E).up F5
 replace o2:=(o2.up E).up F5
 have A5:=(A2.kept E).kept F5 (by simp) (by simp)
 replace E:=E.trans F5
 replace G:=G.trans F5
 clear A2 F3 F4 F5 aw ac
 go_wp2_with fail
 refine nx_normal ⟨E,?_⟩
 generalize hbx:w4.heap.size=bx at *
 generalize World.alloc w4 _=w5 at *
 refine eo 38 (fun w6 F6=>?_)
 replace o1:=o1.up F6
 replace o2:=o2.up F6
 replace o4:=o4.up F6
 have A6:=A5.kept F6
 replace E:=E.trans F6
 replace G:=G.trans F6
 clear F6 A5
 have z:=o4.frozen
 obtain ⟨q0,q1,q2,q3,q4,q5,q6,q7,q8⟩:=ch_cells (h:=⟨0,0,0,0,0,0,0,0⟩) (lv:=.slice none 0 0) o4
 have o8:=(Ob.set (Ob.set (Ob.set (Ob.set (Ob.set (Ob.set (Ob.set (Ob.set (Ob.set o4 (i:=0) (.int .i64 (an:Int))) (i:=1) (.int .i64 (nth s.l an))) (i:=2) (.int .i64 (nth s.l (an+1)))) (i:=3) (.int .i64 (nth s.l (an+2)))) (i:=4) (.int .i64 (nth s.l (an+3)))) (i:=5) (.int .i64 (nth s.l (an+4)))) (i:=6) (.int .i64 (nth s.l (an+5)))) (i:=7) (.int .i64 (nth s.l (an+6)))) (i:=8) (.slice none 0 0))
 have F8:Fr [bx] w6 (((((((((w6.setCell ⟨bx,0,none⟩ (.int .i64 (an:Int))).setCell ⟨bx,1,none⟩ (.int .i64 (nth s.l an))).setCell ⟨bx,2,none⟩ (.int .i64 (nth s.l (an+1)))).setCell ⟨bx,3,none⟩ (.int .i64 (nth s.l (an+2)))).setCell ⟨bx,4,none⟩ (.int .i64 (nth s.l (an+3)))).setCell ⟨bx,5,none⟩ (.int .i64 (nth s.l (an+4)))).setCell ⟨bx,6,none⟩ (.int .i64 (nth s.l (an+5)))).setCell ⟨bx,7,none⟩ (.int .i64 (nth s.l (an+6)))).setCell ⟨bx,8,none⟩ (.slice none 0 0)):=((((((((Fr.setCell (b:=bx) _ (List.mem_singleton.2 rfl)).setCell' _ (List.mem_singleton.2 rfl)).setCell' _ (List.mem_singleton.2 rfl)).setCell' _ (List.mem_singleton.2 rfl)).setCell' _ (List.mem_singleton.2 rfl)).setCell' _ (List.mem_singleton.2 rfl)).setCell' _ (List.mem_singleton.2 rfl)).setCell' _ (List.mem_singleton.2 rfl)).setCell' _ (List.mem_singleton.2 rfl)
 go_wp2_with fail
 generalize hW8:(((((((((w6.setCell ⟨bx,0,none⟩ (.int .i64 (an:Int))).setCell ⟨bx,1,none⟩ (.int .i64 (nth s.l an))).setCell ⟨bx,2,none⟩ (.int .i64 (nth s.l (an+1)))).setCell ⟨bx,3,none⟩ (.int .i64 (nth s.l (an+2)))).setCell ⟨bx,4,none⟩ (.int .i64 (nth s.l (an+3)))).setCell ⟨bx,5,none⟩ (.int .i64 (nth s.l (an+4)))).setCell ⟨bx,6,none⟩ (.int .i64 (nth s.l (an+5)))).setCell ⟨bx,7,none⟩ (.int .i64 (nth s.l (an+6)))).setCell ⟨bx,8,none⟩ (.slice none 0 0))=w8 at *
 rw [sets9] at o8
 have hb2:w2.heap.size≤bx:=by omega
 have o1':=o1.kept F8 (by simp;omega)
 have o2':=o2.kept F8 (by simp;omega)
 have A8:=A6.kept F8 (by simp;omega) (by simp;omega)
 have E8:=E.own F8 (by simp;omega)
 have G8:=G.own F8 (by simp;omega)
 clear hW8 q0 q1 q2 q3 q4 q5 q6 q7 q8 z F8 o1 o2 o4 A6 E G
 refine nx_normal ⟨E8,?_⟩
 refine env_done (by kernel_rfl) (fun w9 F9=>?_)
 replace o8:=o8.up F9
 have o1:=o1'.up F9
 have o2:=o2'.up F9
 have A:=A8.kept F9
 have G:=G8.trans F9
 clear F9 E8 o1' o2' A8 G8 hb2
 replace o8:Ob w9 bx 70 (chC (headOf s.l an) (.slice none 0 0)):=by
  unfold headOf
  rw [peek_nat (k:=an) (by omega),show (an:Int)+1=((an+1:Nat):Int) from rfl,show (an:Int)+2=((an+2:Nat):Int) from rfl,show (an:Int)+3=((an+3:Nat):Int) from rfl,show (an:Int)+4=((an+4:Nat):Int) from rfl,show (an:Int)+5=((an+5:Nat):Int) from rfl,show (an:Int)+6=((an+6:Nat):Int) from rfl,
   peek_nat (k:=an+1) (by omega),peek_nat (k:=an+2) (by omega),peek_nat (k:=an+3) (by omega),peek_nat (k:=an+4) (by omega),peek_nat (k:=an+5) (by omega),peek_nat (k:=an+6) (by omega)]
  exact o8
 have hbl:=o8.lt
 have hlt1:=A.lt
 have HG:=Lib.hid G
 have HQ:=Lib.hid (show w.heap.size<bx∧w.heap.size+1<bx∧p<w.heap.size∧q<w.heap.size by omega)
 clear h12 hw4 hw24 hpq hbx G
 have HLn:=Lib.hid hlen
 have HA:=Lib.hid (And.intro ha A)
 have HO:=Lib.hid (And.intro o2 hcap)
 have HO1:=Lib.hid o1
 have hs0:w9.heap.size≤w9.heap.size:=Nat.le_refl _
 clear ha A o2 o1 hlt1 hlen
 go_wp2_with fail
 go_loopw [10,11] (RcAt w9 (headOf s.l an) (cellsOf s.l an n) bx) (fun x _ _=>n - (intOf x).toNat)
 case atStart=>exact ⟨0,_,Nat.zero_le _,rfl,o8,⟨rfl,.inl ⟨rfl,rfl⟩⟩,Fr.refl _ _⟩
 case round =>
  obtain ⟨i,u,hi,rfl,ox,hr,F⟩:=hrel
  rw [HLn.out] at hi
  obtain ⟨hq1,hq2,hq3,hq4⟩:=HQ.out
  have hcn:=(HO.out.1.kept F (by simp;omega)).cell (i:=1) rfl
  by_cases hlt:i<n
  ·obtain ⟨ap,cp,rfl,-,-⟩:=row_cell hr
   obtain ⟨cap2,-,-,-,-,-,-,-,-,aw⟩:=rarCells (HA.out.2.kept F (by simp;omega) (by simp;omega))
   have hal:=HA.out.1
   obtain ⟨K,hK⟩:∃ K:Nat,K=an+7+3 * i:=⟨_,rfl⟩
   have st:=fun W=>Ref.state_any (an:Int) i (by omega) (by omega) (by omega) (by omega) W
   rw [show (an:Int)+7+3 * (i:Int)=((K:Nat):Int) by omega] at st
   have kb0:K<s.l.length:=by omega
   have kb1:K+1<s.l.length:=by omega
   have kb2:K+2<s.l.length:=by omega
   have y0:=aw K kb0
   have y1:=aw (K+1) kb1
   have y2:=aw (K+2) kb2
   have HC:=Lib.hid (show (cellsOf s.l an n).take (i+1)=(cellsOf s.l an n).take i++[⟨nth s.l K,nth s.l (K+1),nth s.l (K+2)⟩] by
    have e:(cellsOf s.l an n)[i]? = some ⟨nth s.l K,nth s.l (K+1),nth s.l (K+2)⟩:=by
     unfold cellsOf
     rw [List.getElem?_map,List.getElem?_range hlt]
     show some (cellOf s.l an i)=_
     unfold cellOf
     rw [show (an:Int)+7+3 * (i:Int)=((K:Nat):Int) by omega,show ((K:Nat):Int)+1=((K+1:Nat):Int) from rfl,show ((K:Nat):Int)+2=((K+2:Nat):Int) from rfl,peek_nat kb0,peek_nat kb1,peek_nat kb2]
    rw [List.take_add_one,e];rfl)
   have hTl:((cellsOf s.l an n).take i).length=i:=by rw [List.length_take,HLn.out];omega
   have nx:bx∉(Value.slice ap ((cellsOf s.l an n).take i).length cp).ownBlock.toList:=row_ne hr ox (by decide)
   have hgm:=row_base hr
   generalize hT1:(cellsOf s.l an n).take i=T1 at *
   have HT:=Lib.hid (And.intro hT1 hTl)
   have nq:q∉(Value.slice ap T1.length cp).ownBlock.toList:=fun h=>by have:=hgm _ h;have:=HQ.out;omega
   have hcl:=HO.out.2
   have HI:=Lib.hid (And.intro hi hlt)
   clear hT1 hTl aw hK hq1 hq2 hq3 hq4 hal hi
   go_wp2_with fail
   refine (st _).mono ?_;rintro e _ ⟨rfl,rfl⟩
   go_wp2_with fail
   have B:=HI.out
   refine wp_region_free (by kernel_rfl) ?_
   refine any_envL (Value.slice ap T1.length cp).ownBlock.toList wr #[true,true,true,true,true,true,true,true,true,true,true,true,true,true,true,true,true,true,true,false,false] 19 2 rfl ?_
   refine lp [true,true,true,true,true,true,true,true,true,true,true,true,true,true,true,true,true,false,false,false,false] 2 ((Fr.refl _ _).drew) ?_
   apply Exists.intro
   refine ⟨fun wf Ff=>?_,?_⟩
   ·have j0:=In.cell (Ff.cell y0 nq)
    have j1:=In.cell (Ff.cell y1 nq)
    have j2:=In.cell (Ff.cell y2 nq)
    have j8:=In.cell ((Ob.kept ox Ff nx).cell (i:=8) rfl)
    simp only [sel]
    repeat (go_big_quiet_step (fail))
    exact wpQuiet_nil rfl
   refine lo 17 (fun w10 F10=>?_)
   have G:=((Fr.refl (Value.slice ap T1.length cp).ownBlock.toList wr).drew).then F10
   have r10:=row_keeps hr ((Fr.refl [] wr).drew.trans F10)
   clear F10
   go_wp2_with fail
   have F12:=(Fr.refl [] w10).alloc (.cells #[.int .i64 (nth s.l K),.int .i64 (nth s.l (K+1)),.int .i64 (nth s.l (K+2))] 131)
   have B12:=Go.heap_alloc_new w10 (.cells #[.int .i64 (nth s.l K),.int .i64 (nth s.l (K+1)),.int .i64 (nth s.l (K+2))] 131)
   have r12:=row_keeps r10 F12
   replace G:=G.then F12
   clear r10 F12
   refine nx_normal ⟨G,?_⟩
   refine lo 18 (fun w13 F13=>?_)
   have r22:=row_keeps r12 F13
   have B22:=F13.heap B12 (by simp)
   replace G:=G.then F13
   clear r12 B12 F13
   go_wp2_with (at_builtin;refine wpList_appSq fC_lays rfl _ _ 68 rfl Tryz.underlying68 ceI rfl (B:=w9.heap.size) _ T1 rfl r22 _ [⟨nth s.l K,nth s.l (K+1),nth s.l (K+2)⟩] rfl (Sq.block B22 rfl rfl (Nat.le_refl _) (by simp [maxLen])) (by have:=HT.out.2;simp;omega) (by decide) (Nat.le_trans F.size G.size) ?_;intro a23 c23 w23 r23 f23)
   replace G:=G.trans f23
   clear f23 r22 B22
   refine nx_normal ⟨G,?_⟩
   refine envL_tail (k:=19) rfl (by kernel_rfl) (fun w15 F15=>?_)
   have r26:=row_keeps r23 F15
   replace G:=G.then F15
   clear r23 F15
   have ox15:=Ob.kept ox G nx
   have z:=ox15.frozen
   obtain ⟨e0,e1,e2,e3,e4,e5,e6,e7,e8⟩:=ch_cells ox15
   generalize hT2:T1++[(⟨nth s.l K,nth s.l (K+1),nth s.l (K+2)⟩:Ce)]=T2 at *
   have en:T2.length=T1.length+1:=by rw [← hT2];simp
   rw [en] at r26
   have SF:Fr [bx] w15 (w15.setCell ⟨bx,8,none⟩ (.slice a23 (T1.length+1) c23)):=Fr.setCell _ (by simp)
   have HO16:=Lib.hid (Ob.set ox15 (i:=8) (.slice a23 (T1.length+1) c23))
   have HR16:=Lib.hid (row_fr r26 SF (fun g hg hi2=>row_ne r26 ox15 (by decide) (by simp at hi2;subst hi2;rw [hg];simp)))
   have HF16:=Lib.hid ((Fr.ownS F G (row_base hr)).trans SF)
   have HEN:=Lib.hid en
   clear r26 SF ox15 G hT2 en
   go_wp2_with fail
   go_roundw
   case rel=>exact ⟨i+1,.slice a23 (T1.length+1) c23,by rw [HLn.out];omega,by simp,HO16.out,by rw [HC.out,HEN.out];exact HR16.out,HF16.out⟩
   case measure=>exact meas rfl (by omega)
  ·obtain rfl:i=n:=by omega
   rw [List.take_of_length_le (by rw [HLn.out];exact Nat.le_refl _)] at hr
   have HR:=Lib.hid hr
   have o1:=HO1.out.kept F (by simp;omega)
   have hF:=Fr.ownS HG.out F (by simp;omega)
   obtain ⟨ap,cp,rfl,-,-⟩:=row_cell hr
   generalize hcs:cellsOf s.l an i=cs at *
   have HCS:=Lib.hid hcs
   clear hcs
   obtain ⟨a,ha⟩:∃ a,headOf s.l an=a:=⟨_,rfl⟩
   rw [ha] at ox
   have HHA:=Lib.hid ha
   obtain ⟨a0,a1,a2,a3,a4,a5,a6,a7⟩:=a
   have z:=o1.frozen
   obtain ⟨e0,e1,e2,e3,e4,e5,e6,e7,e8⟩:=ch_cells ox
   obtain ⟨q0,q1,q2,q3,q4,q5,q6,q7,q8⟩:=ch_cells (h:=⟨0,0,0,0,0,0,0,0⟩) (lv:=.slice none 0 0) o1
   have nr:=row_ne hr o1 (by decide)
   have o9:=(Ob.set (Ob.set (Ob.set (Ob.set (Ob.set (Ob.set (Ob.set (Ob.set (Ob.set o1 (i:=0) (.int .i64 a0)) (i:=1) (.int .i64 a1)) (i:=2) (.int .i64 a2)) (i:=3) (.int .i64 a3)) (i:=4) (.int .i64 a4)) (i:=5) (.int .i64 a5)) (i:=6) (.int .i64 a6)) (i:=7) (.int .i64 a7)) (i:=8) (.slice ap cs.length cp))
   rw [sets9] at o9
   have F9:Fr [w.heap.size+1] wr (((((((((wr.setCell ⟨w.heap.size+1,0,none⟩ (.int .i64 a0)).setCell ⟨w.heap.size+1,1,none⟩ (.int .i64 a1)).setCell ⟨w.heap.size+1,2,none⟩ (.int .i64 a2)).setCell ⟨w.heap.size+1,3,none⟩ (.int .i64 a3)).setCell ⟨w.heap.size+1,4,none⟩ (.int .i64 a4)).setCell ⟨w.heap.size+1,5,none⟩ (.int .i64 a5)).setCell ⟨w.heap.size+1,6,none⟩ (.int .i64 a6)).setCell ⟨w.heap.size+1,7,none⟩ (.int .i64 a7)).setCell ⟨w.heap.size+1,8,none⟩ (.slice ap cs.length cp)):=((((((((Fr.setCell (b:=w.heap.size+1) _ (List.mem_singleton.2 rfl)).setCell' _ (List.mem_singleton.2 rfl)).setCell' _ (List.mem_singleton.2 rfl)).setCell' _ (List.mem_singleton.2 rfl)).setCell' _ (List.mem_singleton.2 rfl)).setCell' _ (List.mem_singleton.2 rfl)).setCell' _ (List.mem_singleton.2 rfl)).setCell' _ (List.mem_singleton.2 rfl)).setCell' _ (List.mem_singleton.2 rfl)
   have HF:=Lib.hid (hF.own F9 (by simp))
   have HR9:=Lib.hid (row_fr hr F9 (fun g hg hi=>nr (by simp at hi;subst hi;rw [hg];simp)))
   have HX:=Lib.hid o9
   clear hr hF nr F9 o9 ha ox o1 F
   go_wp2_with fail
   generalize (((((((((wr.setCell ⟨w.heap.size+1,0,none⟩ (.int .i64 a0)).setCell ⟨w.heap.size+1,1,none⟩ (.int .i64 a1)).setCell ⟨w.heap.size+1,2,none⟩ (.int .i64 a2)).setCell ⟨w.heap.size+1,3,none⟩ (.int .i64 a3)).setCell ⟨w.heap.size+1,4,none⟩ (.int .i64 a4)).setCell ⟨w.heap.size+1,5,none⟩ (.int .i64 a5)).setCell ⟨w.heap.size+1,6,none⟩ (.int .i64 a6)).setCell ⟨w.heap.size+1,7,none⟩ (.int .i64 a7)).setCell ⟨w.heap.size+1,8,none⟩ (.slice ap cs.length cp))=wz at *
   have o9:=HX.out
   obtain ⟨q0,q1,q2,q3,q4,q5,q6,q7,q8⟩:=ch_cells (h:=⟨a0,a1,a2,a3,a4,a5,a6,a7⟩) (lv:=.slice ap cs.length cp) o9
   refine bodyPost_ret (v:=.tuple #[chV ⟨a0,a1,a2,a3,a4,a5,a6,a7⟩ (.slice ap cs.length cp),.int .i64 0]) ?_ rfl ?_
   ·simp [results,Tryz.results41,go_sem,q0,q1,q2,q3,q4,q5,q6,q7,q8,chV]
   ·exact ⟨⟨_,by rw [HHA.out],by rw [HCS.out];exact Sq.own HR9.out⟩,HF.out⟩
theorem rchunk_no (t wd v a:Int) (n p q:Nat) (s:St) (w:World) (h1:1≤n) (h2:n≤16) (h3:n≤s.l.length) (h4:s.l.length≤20000) (hA:Rar w p q s) (ht:thereB s.l.length n a=false) :
  Calls Tryz.prog 41 #[.agg #[.int .i64 t,.int .i64 n,.int .i64 wd,.int .i64 v],.pointer (some ⟨p,0,none⟩),.int .i64 a] w fun e w'=>e = .returned (.tuple #[chV ⟨0,0,0,0,0,0,0,0⟩ (.slice none 0 0),.int .i64 11])∧Fr [] w w':=by
 have F0:=((Fr.refl [] w).alloc (.cells #[.int .i64 t,.int .i64 n,.int .i64 wd,.int .i64 v] 23))
 have o1:=Ob.newAt (sizeA w (.cells #[.int .i64 t,.int .i64 n,.int .i64 wd,.int .i64 v] 23)) 70 #[.int .i64 0,.int .i64 0,.int .i64 0,.int .i64 0,.int .i64 0,.int .i64 0,.int .i64 0,.int .i64 0,.slice none 0 0]
 have F1:=F0.alloc (.cells #[.int .i64 0,.int .i64 0,.int .i64 0,.int .i64 0,.int .i64 0,.int .i64 0,.int .i64 0,.int .i64 0,.slice none 0 0] 70)
 clear F0
 go_enter Tryz.func41,Tryz.ntmps41
 go_wp2_with fail
 generalize World.alloc (World.alloc w _) _=w1 at *
 refine (rfits_any t n wd v a p q s _ (by omega) (by omega) (by omega) h4 (hA.kept F1)).mono ?_;rintro e w2 ⟨rfl,F2⟩
 rw [ht]
 clear ht
 replace o1:=o1.up F2
 replace F1:=F1.trans F2
 clear F2 hA
 have z:=o1.frozen
 obtain ⟨q0,q1,q2,q3,q4,q5,q6,q7,q8⟩:=ch_cells (h:=⟨0,0,0,0,0,0,0,0⟩) (lv:=.slice none 0 0) o1
 go_wp2_with fail
 have o8:=(Ob.set (Ob.set (Ob.set (Ob.set (Ob.set (Ob.set (Ob.set (Ob.set (Ob.set o1 (i:=0) (.int .i64 0)) (i:=1) (.int .i64 0)) (i:=2) (.int .i64 0)) (i:=3) (.int .i64 0)) (i:=4) (.int .i64 0)) (i:=5) (.int .i64 0)) (i:=6) (.int .i64 0)) (i:=7) (.int .i64 0)) (i:=8) (.slice none 0 0))
 have F8:Fr [w.heap.size+1] w2 (((((((((w2.setCell ⟨w.heap.size+1,0,none⟩ (.int .i64 0)).setCell ⟨w.heap.size+1,1,none⟩ (.int .i64 0)).setCell ⟨w.heap.size+1,2,none⟩ (.int .i64 0)).setCell ⟨w.heap.size+1,3,none⟩ (.int .i64 0)).setCell ⟨w.heap.size+1,4,none⟩ (.int .i64 0)).setCell ⟨w.heap.size+1,5,none⟩ (.int .i64 0)).setCell ⟨w.heap.size+1,6,none⟩ (.int .i64 0)).setCell ⟨w.heap.size+1,7,none⟩ (.int .i64 0)).setCell ⟨w.heap.size+1,8,none⟩ (.slice none 0 0)):=(Fr.setCell' (Fr.setCell' (Fr.setCell' (Fr.setCell' (Fr.setCell' (Fr.setCell' (Fr.setCell' (Fr.setCell' (Fr.setCell' (Fr.refl [w.heap.size+1] w2) (b:=w.heap.size+1) (i:=0) (.int .i64 0) (by simp)) (b:=w.heap.size+1) (i:=1) (.int .i64 0) (by simp)) (b:=w.heap.size+1) (i:=2) (.int .i64 0) (by simp)) (b:=w.heap.size+1) (i:=3) (.int .i64 0) (by simp)) (b:=w.heap.size+1) (i:=4) (.int .i64 0) (by simp)) (b:=w.heap.size+1) (i:=5) (.int .i64 0) (by simp)) (b:=w.heap.size+1) (i:=6) (.int .i64 0) (by simp)) (b:=w.heap.size+1) (i:=7) (.int .i64 0) (by simp)) (b:=w.heap.size+1) (i:=8) (.slice none 0 0) (by simp))
 rw [sets9] at o8
 generalize (((((((((w2.setCell ⟨w.heap.size+1,0,none⟩ (.int .i64 0)).setCell ⟨w.heap.size+1,1,none⟩ (.int .i64 0)).setCell ⟨w.heap.size+1,2,none⟩ (.int .i64 0)).setCell ⟨w.heap.size+1,3,none⟩ (.int .i64 0)).setCell ⟨w.heap.size+1,4,none⟩ (.int .i64 0)).setCell ⟨w.heap.size+1,5,none⟩ (.int .i64 0)).setCell ⟨w.heap.size+1,6,none⟩ (.int .i64 0)).setCell ⟨w.heap.size+1,7,none⟩ (.int .i64 0)).setCell ⟨w.heap.size+1,8,none⟩ (.slice none 0 0))=w8 at *
 clear q0 q1 q2 q3 q4 q5 q6 q7 q8 z o1
 obtain ⟨q0,q1,q2,q3,q4,q5,q6,q7,q8⟩:=ch_cells (h:=⟨0,0,0,0,0,0,0,0⟩) (lv:=.slice none 0 0) o8
 refine bodyPost_ret (v:=.tuple #[chV ⟨0,0,0,0,0,0,0,0⟩ (.slice none 0 0),.int .i64 11]) ?_ rfl ?_
 ·simp [results,Tryz.results41,go_sem,q0,q1,q2,q3,q4,q5,q6,q7,q8,chV]
 ·exact ⟨rfl,F1.own F8 (by simp)⟩
theorem rlay_form (t wd v n:Int) (h:Hd) (cs:List Ce) (lv:Value) (p q:Nat) (w:World) (hn:(cs.length:Int)≠n) (hl:cs.length≤1000) (hs:Sq fC w lv cs) :
  Calls Tryz.prog 48 #[.agg #[.int .i64 t,.int .i64 n,.int .i64 wd,.int .i64 v],.pointer (some ⟨p,0,none⟩),chV h lv] w fun e w'=>e = .returned (.int .i64 10)∧Fr [] w w':=by
 obtain ⟨a,cap,rfl,-,-,-⟩:=hs
 obtain ⟨F1,o0,o1⟩:=two_boxes w t n wd v h (.slice a cs.length cap)
 obtain ⟨-,k1,-,-⟩:=Pl.cells4 o0
 obtain ⟨-,-,-,-,-,-,-,-,q8⟩:=ch_cells o1
 have g:((cs.length:Int) != n)=true:=by simpa using hn
 unfold chV
 unfold chC at F1 o0 o1 k1 q8
 clear o0 o1 hn
 go_enter Tryz.func48,Tryz.ntmps48
 go_wp2
 go_ret
 exact ⟨rfl,F1⟩
theorem rlay_place (t wd v:Int) (n:Nat) (h:Hd) (cs:List Ce) (lv:Value) (p q:Nat) (s:St) (w:World) (h1:1≤n) (h2:n≤16) (h3:n≤s.l.length) (h4:s.l.length≤20000) (hA:Rar w p q s) (hn:cs.length=n) (hs:Sq fC w lv cs) (ht:thereB s.l.length n h.at_=false) :
  Calls Tryz.prog 48 #[.agg #[.int .i64 t,.int .i64 n,.int .i64 wd,.int .i64 v],.pointer (some ⟨p,0,none⟩),chV h lv] w fun e w'=>e = .returned (.int .i64 11)∧Fr [] w w':=by
 obtain ⟨a,cap,rfl,-,-,-⟩:=hs
 obtain ⟨F1,o0,o1⟩:=two_boxes w t n wd v h (.slice a cs.length cap)
 obtain ⟨k0,k1,k2,k3⟩:=Pl.cells4 o0
 obtain ⟨q0,-,-,-,-,-,-,-,q8⟩:=ch_cells o1
 have g:((cs.length:Int) != n)=false:=by simp [hn]
 have A1:=hA.kept F1
 have HT:=Lib.hid ht
 have HN:=Lib.hid hn
 unfold chV
 unfold chC at F1 o0 o1 k0 k1 k2 k3 q0 q8 A1
 clear o0 o1 hn ht
 go_enter Tryz.func48,Tryz.ntmps48
 go_wp2_with fail
 refine (rfits_any t n wd v h.at_ p q s _ (by omega) (by omega) (by omega) h4 A1).mono ?_;rintro e w2 ⟨rfl,F2⟩
 rw [HT.out]
 clear k0 k1 k2 k3 q0 q8
 go_wp2
 go_ret
 exact ⟨rfl,F1.trans F2⟩
end Go.Proofs.YtilipdnchflkhaaGreatDoor.Vw
namespace Go.Proofs.YtilipdnchflkhaaGreatDoor.Vw
open Go.RowKit Go.Proofs.YtilipdnchflkhaaGreatDoor.Ar Go.Proofs.YtilipdnchflkhaaGreatDoor.Mx
theorem itGuard:Tryz.prog.eqGuardType Tryz.prog.depth 60=false:=by kernel_rfl
theorem it_eql (k i o k' i' o':Int) (W:World):(binOp .eql 60 (.agg #[.int .i64 k,.int .i64 i,.int .i64 o]) (.agg #[.int .i64 k',.int .i64 i',.int .i64 o'])).run Tryz.prog W = .ok (.bool (k == k' && i == i' && o == o')) W:=by
 have u3:=Tryz.underlying3
 have a3:(isAgg 3).run Tryz.prog W = .ok false W:=by kernel_rfl
 have hS:Tryz.prog.underlying 60=some (.struct (Tryz.prog.fieldsOf 60)):=by kernel_rfl
 have hp:Tryz.prog.stoodInHeld 60=false:=by kernel_rfl
 rw [run_eql_struct,show (10000:Nat)=9999+1 from rfl,run_equalIn_agg W 9999 60 _ _ hS hp]
 simp only [Program.fieldsOf,Tryz.underlying60]
 go_simp
 cases h1:k == k' <;> cases h2:i == i' <;> cases h3:o == o' <;> simp_all
def s0:St:=Pl.begun 1 3 100
def h0:Hd:=⟨15,0,0,0,0,0,0,0⟩
def cs0:List Ce:=[⟨0,0,0⟩,⟨0,0,0⟩,⟨0,0,0⟩]
def cs1:List Ce:=[⟨0,0,0⟩,⟨5,9,77⟩,⟨0,0,0⟩]
def s1:St:=layS s0 h0 cs1
theorem len0:s0.l.length=100:=by decide +kernel
theorem head0:headOf s0.l 15=h0:=by decide +kernel
theorem cells0:cellsOf s0.l 15 3=cs0:=by decide +kernel
theorem len1:s1.l.length=100:=by decide +kernel
theorem head1:headOf s1.l 15=h0:=by decide +kernel
theorem cells1:cellsOf s1.l 15 3=cs1:=by decide +kernel
theorem acc1:s1.n=0:=by decide +kernel
theorem there0:thereB s0.l.length 3 15=true:=by decide +kernel
theorem there1:thereB s1.l.length 3 15=true:=by decide +kernel
theorem there2:thereB s1.l.length 3 99=false:=by decide +kernel
theorem its1:itemsC cs1=[⟨9,2,77⟩]:=by
 have:verV 5=2:=by decide +kernel
 show [(⟨9,verV 5,77⟩:It)]=_
 rw [this]
theorem chunk_at0 (p q:Nat) (w:World) (A:Ar w p q s0):Calls Tryz.prog 40 #[.agg #[.int .i64 1,.int .i64 3,.int .i64 100,.int .i64 1000],.pointer (some ⟨p,0,none⟩),.int .i64 15] w fun e w'=>∃ b,e = .returned (.tuple #[.agg #[.int .i64 15,.int .i64 0,.int .i64 0,.int .i64 0,.int .i64 0,.int .i64 0,.int .i64 0,.int .i64 0,.slice (some ⟨b,0,none⟩) 3 3],.nilIface])∧w.heap.size≤b∧Ob w' b 131 #[.int .i64 0,.int .i64 0,.int .i64 0,.int .i64 0,.int .i64 0,.int .i64 0,.int .i64 0,.int .i64 0,.int .i64 0]∧Fr [] w w':=by
 have:=chunk_yes 1 100 1000 15 3 p q s0 w (by decide) (by decide) (by rw [len0];decide) (by rw [len0];decide) A there0
 rw [head0,cells0] at this
 exact this
theorem chunk_at1 (p q:Nat) (w:World) (A:Ar w p q s1):Calls Tryz.prog 40 #[.agg #[.int .i64 1,.int .i64 3,.int .i64 100,.int .i64 1000],.pointer (some ⟨p,0,none⟩),.int .i64 15] w fun e w'=>∃ b,e = .returned (.tuple #[.agg #[.int .i64 15,.int .i64 0,.int .i64 0,.int .i64 0,.int .i64 0,.int .i64 0,.int .i64 0,.int .i64 0,.slice (some ⟨b,0,none⟩) 3 3],.nilIface])∧w.heap.size≤b∧Ob w' b 131 #[.int .i64 0,.int .i64 0,.int .i64 0,.int .i64 5,.int .i64 9,.int .i64 77,.int .i64 0,.int .i64 0,.int .i64 0]∧Fr [] w w':=by
 have:=chunk_yes 1 100 1000 15 3 p q s1 w (by decide) (by decide) (by rw [len1];decide) (by rw [len1];decide) A there1
 rw [head1,cells1] at this
 exact this
theorem sq1 {w:World} {b:Nat} (o:Ob w b 131 #[.int .i64 0,.int .i64 0,.int .i64 0,.int .i64 5,.int .i64 9,.int .i64 77,.int .i64 0,.int .i64 0,.int .i64 0]):Sq fC w (.slice (some ⟨b,0,none⟩) 3 3) cs1:=Sq.block o rfl rfl (by decide) (by simp [maxLen])
theorem lay_at0 (p q b:Nat) (w:World) (A:Ar w p q s0) (o:Ob w b 131 #[.int .i64 0,.int .i64 0,.int .i64 0,.int .i64 5,.int .i64 9,.int .i64 77,.int .i64 0,.int .i64 0,.int .i64 0]) (hb:q≠b):Calls Tryz.prog 47 #[.agg #[.int .i64 1,.int .i64 3,.int .i64 100,.int .i64 1000],.pointer (some ⟨p,0,none⟩),.agg #[.int .i64 15,.int .i64 0,.int .i64 0,.int .i64 0,.int .i64 0,.int .i64 0,.int .i64 0,.int .i64 0,(.slice (some ⟨b,0,none⟩) 3 3)]] w fun e w'=>e = .returned .nilIface∧Ar w' p q s1∧Fr [q] w w' :=
 lay_yes 1 100 1000 3 h0 cs1 _ p q s0 w (by decide) (by decide) (by rw [len0];decide) (by rw [len0];decide) A rfl (sq1 o) (by simpa [Value.ownBlock] using hb) there0
theorem lay_at20 (p q:Nat) (w:World):Calls Tryz.prog 47 #[.agg #[.int .i64 1,.int .i64 3,.int .i64 100,.int .i64 1000],.pointer (some ⟨p,0,none⟩),.agg #[.int .i64 20,.int .i64 0,.int .i64 0,.int .i64 0,.int .i64 0,.int .i64 0,.int .i64 0,.int .i64 0,.slice none 0 0]] w fun e w'=>e = .returned (.iface 133 (.int .i64 10))∧Fr [] w w' :=
 lay_form 1 100 1000 3 ⟨20,0,0,0,0,0,0,0⟩ [] _ p q w (by decide) (by decide) (Sq.nil w)
theorem chunk_at99 (p q:Nat) (w:World) (A:Ar w p q s1):Calls Tryz.prog 40 #[.agg #[.int .i64 1,.int .i64 3,.int .i64 100,.int .i64 1000],.pointer (some ⟨p,0,none⟩),.int .i64 99] w fun e w'=>e = .returned (.tuple #[.agg #[.int .i64 0,.int .i64 0,.int .i64 0,.int .i64 0,.int .i64 0,.int .i64 0,.int .i64 0,.int .i64 0,.slice none 0 0],.iface 133 (.int .i64 11)])∧Fr [] w w' :=
 chunk_no 1 100 1000 99 3 p q s1 w (by decide) (by decide) (by rw [len1];decide) (by rw [len1];decide) A there2
theorem items_at1 (b:Nat) (w:World) (o:Ob w b 131 #[.int .i64 0,.int .i64 0,.int .i64 0,.int .i64 5,.int .i64 9,.int .i64 77,.int .i64 0,.int .i64 0,.int .i64 0]):Calls Tryz.prog 45 #[.agg #[.int .i64 15,.int .i64 0,.int .i64 0,.int .i64 0,.int .i64 0,.int .i64 0,.int .i64 0,.int .i64 0,(.slice (some ⟨b,0,none⟩) 3 3)]] w fun e w'=>(∃ g cap,e = .returned (.slice (some ⟨g,0,none⟩) 1 cap)∧w'.cell? ⟨g,0,none⟩=some (.int .i64 9)∧w'.cell? ⟨g,1,none⟩=some (.int .i64 2)∧w'.cell? ⟨g,2,none⟩=some (.int .i64 77))∧Fr [] w w':=by
 refine (items_any h0 cs1 _ w (by decide) ⟨_,rfl,sq1 o⟩).mono ?_
 rintro e w' ⟨⟨u,rfl,r⟩,F⟩
 rw [its1] at r
 refine ⟨?_,F⟩
 obtain ⟨a,cap,rfl,-,h | ⟨g,rfl,-,hc⟩⟩:=row_cell r
 ·simp at h
 ·exact ⟨g,cap,rfl,hc 0 _ rfl,hc 1 _ rfl,hc 2 _ rfl⟩
theorem same_at1 (b b2:Nat) (w:World) (o:Ob w b 131 #[.int .i64 0,.int .i64 0,.int .i64 0,.int .i64 5,.int .i64 9,.int .i64 77,.int .i64 0,.int .i64 0,.int .i64 0]) (o2:Ob w b2 131 #[.int .i64 0,.int .i64 0,.int .i64 0,.int .i64 5,.int .i64 9,.int .i64 77,.int .i64 0,.int .i64 0,.int .i64 0]):Calls Tryz.prog 44 #[.agg #[.int .i64 15,.int .i64 0,.int .i64 0,.int .i64 0,.int .i64 0,.int .i64 0,.int .i64 0,.int .i64 0,(.slice (some ⟨b,0,none⟩) 3 3)],.agg #[.int .i64 15,.int .i64 0,.int .i64 0,.int .i64 0,.int .i64 0,.int .i64 0,.int .i64 0,.int .i64 0,(.slice (some ⟨b2,0,none⟩) 3 3)]] w fun e w'=>e = .returned (.bool true)∧Fr [] w w':=by
 have:=same_any h0 h0 cs1 cs1 _ _ w (by decide) (by decide) ⟨_,rfl,sq1 o⟩ ⟨_,rfl,sq1 o2⟩
 rw [show decide (h0=h0∧cs1=cs1)=true by decide] at this
 exact this
theorem acc_at (p q:Nat) (w:World) (A:Ar w p q s1):Calls Tryz.prog 22 #[.pointer (some ⟨p,0,none⟩)] w fun e w'=>e = .returned (.int .i64 0)∧w=w':=by
 have:=accesses_any w p q s1 A
 rw [acc1] at this
 exact this
theorem known_true (w:World):Calls Tryz.prog 39 #[] w fun e w'=>e = .returned (.bool true)∧Fr [] w w':=by
 have isE:=Er.isE
 go_enter Tryz.func39,Tryz.ntmps39
 go_wp2_with fail
 refine (Pl.conf_any 1 3 100 _).mono ?_;rintro e w1 ⟨rfl,F1⟩
 have G:=F1.alloc (.cells #[.int .i64 1,.int .i64 3,.int .i64 100,.int .i64 1000] 23)
 have oc:=Ob.new w1 23 #[.int .i64 1,.int .i64 3,.int .i64 100,.int .i64 1000]
 obtain ⟨c0,c1,c2,c3⟩:=Pl.cells4 oc
 have hcw:=oc.lt
 have hw1:=F1.size
 clear F1
 go_wp2_with fail
 refine (Pl.make_yes 1 3 100 1000 (by decide) _).mono ?_;rintro e w2 ⟨p,q,rfl,hp,hq,A,F2⟩
 rw [sizeA] at hp hq
 replace oc:=oc.up F2
 replace hcw:=oc.lt
 have hA2:=A.lt
 replace G:=G.trans F2
 have hG:=G.size
 have A:Ar w2 p q s0:=A
 clear F2 c0 c1 c2 c3
 go_wp2_with fail
 generalize hbc:w1.heap.size=bc at *
 refine wp_region_env (by kernel_rfl) [] (fun w3 F3=>?_)
 refine ep [true,true,true,true,false,false,false,false,false,false,false] 7 (F3.mono) ?_
 apply Exists.intro
 refine ⟨fun wf Ff=>?_,?_⟩
 ·obtain ⟨c0,c1,c2,c3⟩:=Pl.cells4 (oc.up Ff)
  have k0:=In.cell c0
  have k1:=In.cell c1
  have k2:=In.cell c2
  have k3:=In.cell c3
  clear c0 c1 c2 c3
  simp only [sel]
  repeat (go_big_quiet_step ((go_at_call 64;exact Calls.in_ (Pl.first_any 1 3 100 1000 (by decide) (by decide) _))))
  exact wpQuiet_nil rfl
 refine env_ready [4,8] (by kernel_rfl) (by simp) (fun w10 F10 m hm o ho=>?_)
 have E:=F3.trans F10
 clear F10 F3
 simp only [List.mem_cons,List.not_mem_nil,or_false] at hm
 rcases hm with rfl | rfl
 ·obtain rfl:=Option.some.inj ho
  go_wp2_with fail
  refine (chunk_at0 p q _ (A.kept E)).mono ?_;rintro e w4 ⟨b,rfl,hb,ob,F4⟩
  have hE:=E.size
  replace E:=E.trans F4
  clear F4 ho
  go_wp2_with fail
  refine nx_normal ⟨E,?_⟩
  refine ep [false,false,false,false,false,true,true,true,false,false,false] 3 E ?_
  apply Exists.intro
  refine ⟨fun wf Ff=>?_,?_⟩
  ·simp only [sel]
   repeat (go_big_quiet_step (fail))
   exact wpQuiet_nil rfl
  refine eo 8 (fun w5 F5=>?_)
  replace E:=E.trans F5
  replace ob:=ob.up F5
  have hob:=ob.lt
  clear F5
  go_wp2_with fail
  have F6:=(Fr.refl [] w5).alloc (.cells #[.int .i64 0,.int .i64 0,.int .i64 0,.int .i64 0,.int .i64 0,.int .i64 0,.int .i64 0,.int .i64 0,.slice none 0 0] 70)
  have ox:=Ob.new w5 70 (chC ⟨0,0,0,0,0,0,0,0⟩ (.slice none 0 0))
  replace E:=E.trans F6
  replace ob:=ob.up F6
  have hbx:w2.heap.size≤w5.heap.size∧w2.heap.size≤b∧b≠w5.heap.size:=by refine ⟨?_,?_,?_⟩ <;> omega
  unfold chC at ox
  clear F6 hob hE hb
  refine nx_normal ⟨E,?_⟩
  generalize w5.heap.size=bx at *
  refine eo 9 (fun w7 F7=>?_)
  replace ox:=ox.up F7
  replace ob:=ob.up F7
  replace E:=E.trans F7
  clear F7
  obtain ⟨x0,x1,x2,x3,x4,x5,x6,x7,x8⟩:=ch_cells (h:=⟨0,0,0,0,0,0,0,0⟩) (lv:=.slice none 0 0) ox
  have zx:=ox.frozen
  have o8:=(Ob.set (Ob.set (Ob.set (Ob.set (Ob.set (Ob.set (Ob.set (Ob.set (Ob.set ox (i:=0) (.int .i64 15)) (i:=1) (.int .i64 0)) (i:=2) (.int .i64 0)) (i:=3) (.int .i64 0)) (i:=4) (.int .i64 0)) (i:=5) (.int .i64 0)) (i:=6) (.int .i64 0)) (i:=7) (.int .i64 0)) (i:=8) (.slice (some ⟨b,0,none⟩) 3 3))
  have F8:Fr [bx] w7 (((((((((w7.setCell ⟨bx,0,none⟩ (.int .i64 15)).setCell ⟨bx,1,none⟩ (.int .i64 0)).setCell ⟨bx,2,none⟩ (.int .i64 0)).setCell ⟨bx,3,none⟩ (.int .i64 0)).setCell ⟨bx,4,none⟩ (.int .i64 0)).setCell ⟨bx,5,none⟩ (.int .i64 0)).setCell ⟨bx,6,none⟩ (.int .i64 0)).setCell ⟨bx,7,none⟩ (.int .i64 0)).setCell ⟨bx,8,none⟩ (.slice (some ⟨b,0,none⟩) 3 3)):=(Fr.setCell' (Fr.setCell' (Fr.setCell' (Fr.setCell' (Fr.setCell' (Fr.setCell' (Fr.setCell' (Fr.setCell' (Fr.setCell' (Fr.refl [bx] w7) (b:=bx) (i:=0) (.int .i64 15) (by simp)) (b:=bx) (i:=1) (.int .i64 0) (by simp)) (b:=bx) (i:=2) (.int .i64 0) (by simp)) (b:=bx) (i:=3) (.int .i64 0) (by simp)) (b:=bx) (i:=4) (.int .i64 0) (by simp)) (b:=bx) (i:=5) (.int .i64 0) (by simp)) (b:=bx) (i:=6) (.int .i64 0) (by simp)) (b:=bx) (i:=7) (.int .i64 0) (by simp)) (b:=bx) (i:=8) (.slice (some ⟨b,0,none⟩) 3 3) (by simp))
  rw [sets9] at o8
  go_wp2_with fail
  generalize (((((((((w7.setCell ⟨bx,0,none⟩ (.int .i64 15)).setCell ⟨bx,1,none⟩ (.int .i64 0)).setCell ⟨bx,2,none⟩ (.int .i64 0)).setCell ⟨bx,3,none⟩ (.int .i64 0)).setCell ⟨bx,4,none⟩ (.int .i64 0)).setCell ⟨bx,5,none⟩ (.int .i64 0)).setCell ⟨bx,6,none⟩ (.int .i64 0)).setCell ⟨bx,7,none⟩ (.int .i64 0)).setCell ⟨bx,8,none⟩ (.slice (some ⟨b,0,none⟩) 3 3))=w8 at *
  clear x0 x1 x2 x3 x4 x5 x6 x7 x8 zx ox
  replace ob:=ob.kept F8 (by simp;omega)
  replace E:=E.own F8 (by simp;omega)
  clear F8
  refine nx_normal ⟨E,?_⟩
  refine eo 10 (fun w9 F9=>?_)
  replace o8:=o8.up F9
  replace ob:=ob.up F9
  replace E:=E.trans F9
  clear F9
  go_wp2_with fail
  refine nx_normal ⟨E,?_⟩
  refine env_done (by kernel_rfl) (fun w10 F10=>?_)
  replace o8:=o8.up F10
  replace ob:=ob.up F10
  replace E:=E.trans F10
  clear F10
  replace A:=A.kept E
  replace oc:=oc.up E
  have EG:=G.trans E
  have hpq:=A.lt
  have hob:=ob.lt
  have ho8:=o8.lt
  clear G
  obtain ⟨x0,x1,x2,x3,x4,x5,x6,x7,x8⟩:=ch_cells (h:=h0) (lv:=.slice (some ⟨b,0,none⟩) 3 3) o8
  unfold h0 at x0 x1 x2 x3 x4 x5 x6 x7
  simp only at x0 x1 x2 x3 x4 x5 x6 x7
  have zb:=ob.frozen
  have y3:w10.cell? ⟨b,3,none⟩=some (.int .i64 0):=ob.cell (i:=3) rfl
  have y4:w10.cell? ⟨b,4,none⟩=some (.int .i64 0):=ob.cell (i:=4) rfl
  have y5:w10.cell? ⟨b,5,none⟩=some (.int .i64 0):=ob.cell (i:=5) rfl
  obtain ⟨c0,c1,c2,c3⟩:=Pl.cells4 oc
  have n1:bx≠b:=fun h=>hbx.2.2 h.symm
  have n2:bc≠b:=by omega
  go_wp2_with fail
  have F5:Fr [b] w10 (((w10.setCell ⟨b,3,none⟩ (.int .i64 5)).setCell ⟨b,4,none⟩ (.int .i64 9)).setCell ⟨b,5,none⟩ (.int .i64 77)):=Fr.setCell' (Fr.setCell' (Fr.setCell (b:=b) (i:=3) (.int .i64 5) (by simp)) (b:=b) (i:=4) (.int .i64 9) (by simp)) (b:=b) (i:=5) (.int .i64 77) (by simp)
  have o5:Ob (((w10.setCell ⟨b,3,none⟩ (.int .i64 5)).setCell ⟨b,4,none⟩ (.int .i64 9)).setCell ⟨b,5,none⟩ (.int .i64 77)) b 131 #[.int .i64 0,.int .i64 0,.int .i64 0,.int .i64 5,.int .i64 9,.int .i64 77,.int .i64 0,.int .i64 0,.int .i64 0]:=Ob.set (Ob.set (Ob.set ob (i:=3) (.int .i64 5)) (i:=4) (.int .i64 9)) (i:=5) (.int .i64 77)
  generalize (((w10.setCell ⟨b,3,none⟩ (.int .i64 5)).setCell ⟨b,4,none⟩ (.int .i64 9)).setCell ⟨b,5,none⟩ (.int .i64 77))=w11 at *
  clear x0 x1 x2 x3 x4 x5 x6 x7 x8 y3 y4 y5 c0 c1 c2 c3 zb ob
  replace A:=A.kept F5 (by simp;omega) (by simp;omega)
  replace oc:=oc.kept F5 (by simpa using n2)
  replace o8:=o8.kept F5 (by simpa using n1)
  replace EG:=EG.own F5 (by simp;omega)
  clear F5
  have nqb:q≠b:=by omega
  have nqx:q≠bx:=by omega
  have nqc:q≠bc:=by omega
  refine (lay_at0 p q b _ A o5 nqb).mono ?_;rintro e w12 ⟨rfl,A2,F12⟩
  replace oc:=oc.kept F12 (by simpa using nqc.symm)
  replace o8:=o8.kept F12 (by simpa using nqx.symm)
  replace o5:=o5.kept F12 (by simpa using nqb.symm)
  replace EG:=EG.own F12 (by simp;omega)
  clear F12 A hpq
  have hsz:=EG.size
  obtain ⟨c0,c1,c2,c3⟩:=Pl.cells4 oc
  obtain ⟨x0,x1,x2,x3,x4,x5,x6,x7,x8⟩:=ch_cells (h:=h0) (lv:=.slice (some ⟨b,0,none⟩) 3 3) o8
  unfold h0 at x0 x1 x2 x3 x4 x5 x6 x7
  simp only at x0 x1 x2 x3 x4 x5 x6 x7
  go_wp2_with fail
  refine (chunk_at1 p q _ A2).mono ?_;rintro e w13 ⟨b2,rfl,hb2,ob2,F13⟩
  replace A2:=A2.kept F13
  replace oc:=oc.up F13
  replace o8:=o8.up F13
  replace o5:=o5.up F13
  replace EG:=EG.trans F13
  clear x0 x1 x2 x3 x4 x5 x6 x7 x8 c0 c1 c2 c3 F13
  go_wp2_with fail
  have F14:=(Fr.refl [] w13).alloc (.cells #[.int .i64 15,.int .i64 0,.int .i64 0,.int .i64 0,.int .i64 0,.int .i64 0,.int .i64 0,.int .i64 0,.slice (some ⟨b2,0,none⟩) 3 3] 70)
  have oy:=Ob.new w13 70 (chC h0 (.slice (some ⟨b2,0,none⟩) 3 3))
  unfold chC h0 at oy
  simp only at oy
  replace A2:=A2.kept F14
  replace oc:=oc.up F14
  replace o8:=o8.up F14
  replace o5:=o5.up F14
  replace ob2:=ob2.up F14
  replace EG:=EG.trans F14
  clear F14
  generalize (w13.alloc (.cells #[.int .i64 15,.int .i64 0,.int .i64 0,.int .i64 0,.int .i64 0,.int .i64 0,.int .i64 0,.int .i64 0,.slice (some ⟨b2,0,none⟩) 3 3] 70))=w14 at *
  generalize w13.heap.size=by_ at *
  refine (items_at1 b2 _ ob2).mono ?_;rintro e w15 ⟨⟨gi,capi,rfl,i0,i1,i2⟩,F15⟩
  replace A2:=A2.kept F15
  replace oc:=oc.up F15
  replace o8:=o8.up F15
  replace o5:=o5.up F15
  replace ob2:=ob2.up F15
  replace oy:=oy.up F15
  replace EG:=EG.trans F15
  clear F15
  obtain ⟨c0,c1,c2,c3⟩:=Pl.cells4 oc
  go_wp2_with fail
  refine (chunk_at99 p q _ A2).mono ?_;rintro e w16 ⟨rfl,F16⟩
  replace A2:=A2.kept F16
  replace oc:=oc.up F16
  replace o8:=o8.up F16
  replace o5:=o5.up F16
  replace ob2:=ob2.up F16
  replace oy:=oy.up F16
  replace i0:=F16.cell i0 (by simp)
  replace i1:=F16.cell i1 (by simp)
  replace i2:=F16.cell i2 (by simp)
  replace EG:=EG.trans F16
  clear F16 c0 c1 c2 c3
  obtain ⟨x0,x1,x2,x3,x4,x5,x6,x7,x8⟩:=ch_cells (h:=h0) (lv:=.slice (some ⟨b,0,none⟩) 3 3) o8
  obtain ⟨y0,y1,y2,y3,y4,y5,y6,y7,y8⟩:=ch_cells (h:=h0) (lv:=.slice (some ⟨b2,0,none⟩) 3 3) oy
  unfold h0 at x0 x1 x2 x3 x4 x5 x6 x7 y0 y1 y2 y3 y4 y5 y6 y7
  simp only at x0 x1 x2 x3 x4 x5 x6 x7 y0 y1 y2 y3 y4 y5 y6 y7
  have lx:=o8.lt
  have ly:=oy.lt
  go_wp2_with fail
  clear x0 x1 x2 x3 x4 x5 x6 x7 x8 y0 y1 y2 y3 y4 y5 y6 y7 y8 o8 oy
  have F17:=(Fr.refl [] w16).alloc (.cells #[.int .i64 0,.int .i64 0,.int .i64 0,.int .i64 0,.int .i64 0,.int .i64 0,.int .i64 0,.int .i64 0,.slice none 0 0] 70)
  replace A2:=A2.kept F17
  replace oc:=oc.up F17
  replace o5:=o5.up F17
  replace ob2:=ob2.up F17
  replace i0:=F17.cell i0 (by simp)
  replace i1:=F17.cell i1 (by simp)
  replace i2:=F17.cell i2 (by simp)
  replace EG:=EG.trans F17
  clear F17
  generalize (w16.alloc (.cells #[.int .i64 0,.int .i64 0,.int .i64 0,.int .i64 0,.int .i64 0,.int .i64 0,.int .i64 0,.int .i64 0,.slice none 0 0] 70))=w17 at *
  generalize w16.heap.size=bz at *
  refine (same_at1 b b2 _ o5 ob2).mono ?_;rintro e w18 ⟨rfl,F18⟩
  replace A2:=A2.kept F18
  replace oc:=oc.up F18
  replace i0:=F18.cell i0 (by simp)
  replace i1:=F18.cell i1 (by simp)
  replace i2:=F18.cell i2 (by simp)
  replace EG:=EG.trans F18
  clear F18 o5 ob2
  have ig:=itGuard
  have ie:=it_eql 9 2 77 9 2 77
  simp only [beq_self_eq_true,Bool.and_self] at ie
  go_wp2_with fail
  clear ig ie i0 i1 i2
  refine (Er.is_same 11 _).mono ?_;rintro e _ ⟨rfl,rfl⟩
  obtain ⟨c0,c1,c2,c3⟩:=Pl.cells4 oc
  go_wp2_with fail
  refine (lay_at20 p q _).mono ?_;rintro e w19 ⟨rfl,F19⟩
  replace A2:=A2.kept F19
  replace EG:=EG.trans F19
  clear F19 oc c0 c1 c2 c3
  go_wp2_with fail
  refine (Er.is_same 10 _).mono ?_;rintro e _ ⟨rfl,rfl⟩
  go_wp2_with fail
  refine (acc_at p q _ A2).mono ?_;rintro e _ ⟨rfl,rfl⟩
  go_wp2
  go_ret
  exact ⟨rfl,EG⟩
 ·obtain rfl:=Option.some.inj ho
  go_wp2_with fail
  have F6:=(Fr.refl [] w10).alloc (.cells #[.int .i64 0,.int .i64 0,.int .i64 0,.int .i64 0,.int .i64 0,.int .i64 0,.int .i64 0,.int .i64 0,.slice none 0 0] 70)
  have ox:=Ob.new w10 70 (chC ⟨0,0,0,0,0,0,0,0⟩ (.slice none 0 0))
  unfold chC at ox
  have hE:=E.size
  replace E:=E.trans F6
  clear F6 ho
  refine nx_normal ⟨E,?_⟩
  generalize hx:w10.heap.size=bx at *
  refine eo 4 (fun w5 F5=>?_)
  replace ox:=ox.up F5
  have hox:=ox.lt
  replace E:=E.trans F5
  clear F5
  go_wp2_with fail
  refine (chunk_at0 p q _ (A.kept E)).mono ?_;rintro e w4 ⟨b,rfl,hb,ob,F4⟩
  replace E:=E.trans F4
  replace ox:=ox.up F4
  have hbx:w2.heap.size≤bx∧w2.heap.size≤b∧b≠bx:=by refine ⟨?_,?_,?_⟩ <;> omega
  clear F4 hb hox hE hx
  go_wp2_with fail
  refine nx_normal ⟨E,?_⟩
  refine ep [false,false,false,false,false,true,true,true,false,false,false] 2 E ?_
  apply Exists.intro
  refine ⟨fun wf Ff=>?_,?_⟩
  ·simp only [sel]
   repeat (go_big_quiet_step (fail))
   exact wpQuiet_nil rfl
  refine eo 9 (fun w7 F7=>?_)
  replace ox:=ox.up F7
  replace ob:=ob.up F7
  replace E:=E.trans F7
  clear F7
  obtain ⟨x0,x1,x2,x3,x4,x5,x6,x7,x8⟩:=ch_cells (h:=⟨0,0,0,0,0,0,0,0⟩) (lv:=.slice none 0 0) ox
  have zx:=ox.frozen
  have o8:=(Ob.set (Ob.set (Ob.set (Ob.set (Ob.set (Ob.set (Ob.set (Ob.set (Ob.set ox (i:=0) (.int .i64 15)) (i:=1) (.int .i64 0)) (i:=2) (.int .i64 0)) (i:=3) (.int .i64 0)) (i:=4) (.int .i64 0)) (i:=5) (.int .i64 0)) (i:=6) (.int .i64 0)) (i:=7) (.int .i64 0)) (i:=8) (.slice (some ⟨b,0,none⟩) 3 3))
  have F8:Fr [bx] w7 (((((((((w7.setCell ⟨bx,0,none⟩ (.int .i64 15)).setCell ⟨bx,1,none⟩ (.int .i64 0)).setCell ⟨bx,2,none⟩ (.int .i64 0)).setCell ⟨bx,3,none⟩ (.int .i64 0)).setCell ⟨bx,4,none⟩ (.int .i64 0)).setCell ⟨bx,5,none⟩ (.int .i64 0)).setCell ⟨bx,6,none⟩ (.int .i64 0)).setCell ⟨bx,7,none⟩ (.int .i64 0)).setCell ⟨bx,8,none⟩ (.slice (some ⟨b,0,none⟩) 3 3)):=(Fr.setCell' (Fr.setCell' (Fr.setCell' (Fr.setCell' (Fr.setCell' (Fr.setCell' (Fr.setCell' (Fr.setCell' (Fr.setCell' (Fr.refl [bx] w7) (b:=bx) (i:=0) (.int .i64 15) (by simp)) (b:=bx) (i:=1) (.int .i64 0) (by simp)) (b:=bx) (i:=2) (.int .i64 0) (by simp)) (b:=bx) (i:=3) (.int .i64 0) (by simp)) (b:=bx) (i:=4) (.int .i64 0) (by simp)) (b:=bx) (i:=5) (.int .i64 0) (by simp)) (b:=bx) (i:=6) (.int .i64 0) (by simp)) (b:=bx) (i:=7) (.int .i64 0) (by simp)) (b:=bx) (i:=8) (.slice (some ⟨b,0,none⟩) 3 3) (by simp))
  rw [sets9] at o8
  go_wp2_with fail
  generalize (((((((((w7.setCell ⟨bx,0,none⟩ (.int .i64 15)).setCell ⟨bx,1,none⟩ (.int .i64 0)).setCell ⟨bx,2,none⟩ (.int .i64 0)).setCell ⟨bx,3,none⟩ (.int .i64 0)).setCell ⟨bx,4,none⟩ (.int .i64 0)).setCell ⟨bx,5,none⟩ (.int .i64 0)).setCell ⟨bx,6,none⟩ (.int .i64 0)).setCell ⟨bx,7,none⟩ (.int .i64 0)).setCell ⟨bx,8,none⟩ (.slice (some ⟨b,0,none⟩) 3 3))=w8 at *
  clear x0 x1 x2 x3 x4 x5 x6 x7 x8 zx ox
  replace ob:=ob.kept F8 (by simp;omega)
  replace E:=E.own F8 (by simp;omega)
  clear F8
  refine nx_normal ⟨E,?_⟩
  refine eo 10 (fun w9 F9=>?_)
  replace o8:=o8.up F9
  replace ob:=ob.up F9
  replace E:=E.trans F9
  clear F9
  go_wp2_with fail
  refine nx_normal ⟨E,?_⟩
  refine env_done (by kernel_rfl) (fun w10 F10=>?_)
  replace o8:=o8.up F10
  replace ob:=ob.up F10
  replace E:=E.trans F10
  clear F10
  replace A:=A.kept E
  replace oc:=oc.up E
  have EG:=G.trans E
  have hpq:=A.lt
  have hob:=ob.lt
  have ho8:=o8.lt
  clear G
  obtain ⟨x0,x1,x2,x3,x4,x5,x6,x7,x8⟩:=ch_cells (h:=h0) (lv:=.slice (some ⟨b,0,none⟩) 3 3) o8
  unfold h0 at x0 x1 x2 x3 x4 x5 x6 x7
  simp only at x0 x1 x2 x3 x4 x5 x6 x7
  have zb:=ob.frozen
  have y3:w10.cell? ⟨b,3,none⟩=some (.int .i64 0):=ob.cell (i:=3) rfl
  have y4:w10.cell? ⟨b,4,none⟩=some (.int .i64 0):=ob.cell (i:=4) rfl
  have y5:w10.cell? ⟨b,5,none⟩=some (.int .i64 0):=ob.cell (i:=5) rfl
  obtain ⟨c0,c1,c2,c3⟩:=Pl.cells4 oc
  have n1:bx≠b:=fun h=>hbx.2.2 h.symm
  have n2:bc≠b:=by omega
  go_wp2_with fail
  have F5:Fr [b] w10 (((w10.setCell ⟨b,3,none⟩ (.int .i64 5)).setCell ⟨b,4,none⟩ (.int .i64 9)).setCell ⟨b,5,none⟩ (.int .i64 77)):=Fr.setCell' (Fr.setCell' (Fr.setCell (b:=b) (i:=3) (.int .i64 5) (by simp)) (b:=b) (i:=4) (.int .i64 9) (by simp)) (b:=b) (i:=5) (.int .i64 77) (by simp)
  have o5:Ob (((w10.setCell ⟨b,3,none⟩ (.int .i64 5)).setCell ⟨b,4,none⟩ (.int .i64 9)).setCell ⟨b,5,none⟩ (.int .i64 77)) b 131 #[.int .i64 0,.int .i64 0,.int .i64 0,.int .i64 5,.int .i64 9,.int .i64 77,.int .i64 0,.int .i64 0,.int .i64 0]:=Ob.set (Ob.set (Ob.set ob (i:=3) (.int .i64 5)) (i:=4) (.int .i64 9)) (i:=5) (.int .i64 77)
  generalize (((w10.setCell ⟨b,3,none⟩ (.int .i64 5)).setCell ⟨b,4,none⟩ (.int .i64 9)).setCell ⟨b,5,none⟩ (.int .i64 77))=w11 at *
  clear x0 x1 x2 x3 x4 x5 x6 x7 x8 y3 y4 y5 c0 c1 c2 c3 zb ob
  replace A:=A.kept F5 (by simp;omega) (by simp;omega)
  replace oc:=oc.kept F5 (by simpa using n2)
  replace o8:=o8.kept F5 (by simpa using n1)
  replace EG:=EG.own F5 (by simp;omega)
  clear F5
  have nqb:q≠b:=by omega
  have nqx:q≠bx:=by omega
  have nqc:q≠bc:=by omega
  refine (lay_at0 p q b _ A o5 nqb).mono ?_;rintro e w12 ⟨rfl,A2,F12⟩
  replace oc:=oc.kept F12 (by simpa using nqc.symm)
  replace o8:=o8.kept F12 (by simpa using nqx.symm)
  replace o5:=o5.kept F12 (by simpa using nqb.symm)
  replace EG:=EG.own F12 (by simp;omega)
  clear F12 A hpq
  have hsz:=EG.size
  obtain ⟨c0,c1,c2,c3⟩:=Pl.cells4 oc
  obtain ⟨x0,x1,x2,x3,x4,x5,x6,x7,x8⟩:=ch_cells (h:=h0) (lv:=.slice (some ⟨b,0,none⟩) 3 3) o8
  unfold h0 at x0 x1 x2 x3 x4 x5 x6 x7
  simp only at x0 x1 x2 x3 x4 x5 x6 x7
  go_wp2_with fail
  refine (chunk_at1 p q _ A2).mono ?_;rintro e w13 ⟨b2,rfl,hb2,ob2,F13⟩
  replace A2:=A2.kept F13
  replace oc:=oc.up F13
  replace o8:=o8.up F13
  replace o5:=o5.up F13
  replace EG:=EG.trans F13
  clear x0 x1 x2 x3 x4 x5 x6 x7 x8 c0 c1 c2 c3 F13
  go_wp2_with fail
  have F14:=(Fr.refl [] w13).alloc (.cells #[.int .i64 15,.int .i64 0,.int .i64 0,.int .i64 0,.int .i64 0,.int .i64 0,.int .i64 0,.int .i64 0,.slice (some ⟨b2,0,none⟩) 3 3] 70)
  have oy:=Ob.new w13 70 (chC h0 (.slice (some ⟨b2,0,none⟩) 3 3))
  unfold chC h0 at oy
  simp only at oy
  replace A2:=A2.kept F14
  replace oc:=oc.up F14
  replace o8:=o8.up F14
  replace o5:=o5.up F14
  replace ob2:=ob2.up F14
  replace EG:=EG.trans F14
  clear F14
  generalize (w13.alloc (.cells #[.int .i64 15,.int .i64 0,.int .i64 0,.int .i64 0,.int .i64 0,.int .i64 0,.int .i64 0,.int .i64 0,.slice (some ⟨b2,0,none⟩) 3 3] 70))=w14 at *
  generalize w13.heap.size=by_ at *
  refine (items_at1 b2 _ ob2).mono ?_;rintro e w15 ⟨⟨gi,capi,rfl,i0,i1,i2⟩,F15⟩
  replace A2:=A2.kept F15
  replace oc:=oc.up F15
  replace o8:=o8.up F15
  replace o5:=o5.up F15
  replace ob2:=ob2.up F15
  replace oy:=oy.up F15
  replace EG:=EG.trans F15
  clear F15
  obtain ⟨c0,c1,c2,c3⟩:=Pl.cells4 oc
  go_wp2_with fail
  refine (chunk_at99 p q _ A2).mono ?_;rintro e w16 ⟨rfl,F16⟩
  replace A2:=A2.kept F16
  replace oc:=oc.up F16
  replace o8:=o8.up F16
  replace o5:=o5.up F16
  replace ob2:=ob2.up F16
  replace oy:=oy.up F16
  replace i0:=F16.cell i0 (by simp)
  replace i1:=F16.cell i1 (by simp)
  replace i2:=F16.cell i2 (by simp)
  replace EG:=EG.trans F16
  clear F16 c0 c1 c2 c3
  obtain ⟨x0,x1,x2,x3,x4,x5,x6,x7,x8⟩:=ch_cells (h:=h0) (lv:=.slice (some ⟨b,0,none⟩) 3 3) o8
  obtain ⟨y0,y1,y2,y3,y4,y5,y6,y7,y8⟩:=ch_cells (h:=h0) (lv:=.slice (some ⟨b2,0,none⟩) 3 3) oy
  unfold h0 at x0 x1 x2 x3 x4 x5 x6 x7 y0 y1 y2 y3 y4 y5 y6 y7
  simp only at x0 x1 x2 x3 x4 x5 x6 x7 y0 y1 y2 y3 y4 y5 y6 y7
  have lx:=o8.lt
  have ly:=oy.lt
  go_wp2_with fail
  clear x0 x1 x2 x3 x4 x5 x6 x7 x8 y0 y1 y2 y3 y4 y5 y6 y7 y8 o8 oy
  have F17:=(Fr.refl [] w16).alloc (.cells #[.int .i64 0,.int .i64 0,.int .i64 0,.int .i64 0,.int .i64 0,.int .i64 0,.int .i64 0,.int .i64 0,.slice none 0 0] 70)
  replace A2:=A2.kept F17
  replace oc:=oc.up F17
  replace o5:=o5.up F17
  replace ob2:=ob2.up F17
  replace i0:=F17.cell i0 (by simp)
  replace i1:=F17.cell i1 (by simp)
  replace i2:=F17.cell i2 (by simp)
  replace EG:=EG.trans F17
  clear F17
  generalize (w16.alloc (.cells #[.int .i64 0,.int .i64 0,.int .i64 0,.int .i64 0,.int .i64 0,.int .i64 0,.int .i64 0,.int .i64 0,.slice none 0 0] 70))=w17 at *
  generalize w16.heap.size=bz at *
  refine (same_at1 b b2 _ o5 ob2).mono ?_;rintro e w18 ⟨rfl,F18⟩
  replace A2:=A2.kept F18
  replace oc:=oc.up F18
  replace i0:=F18.cell i0 (by simp)
  replace i1:=F18.cell i1 (by simp)
  replace i2:=F18.cell i2 (by simp)
  replace EG:=EG.trans F18
  clear F18 o5 ob2
  have ig:=itGuard
  have ie:=it_eql 9 2 77 9 2 77
  simp only [beq_self_eq_true,Bool.and_self] at ie
  go_wp2_with fail
  clear ig ie i0 i1 i2
  refine (Er.is_same 11 _).mono ?_;rintro e _ ⟨rfl,rfl⟩
  obtain ⟨c0,c1,c2,c3⟩:=Pl.cells4 oc
  go_wp2_with fail
  refine (lay_at20 p q _).mono ?_;rintro e w19 ⟨rfl,F19⟩
  replace A2:=A2.kept F19
  replace EG:=EG.trans F19
  clear F19 oc c0 c1 c2 c3
  go_wp2_with fail
  refine (Er.is_same 10 _).mono ?_;rintro e _ ⟨rfl,rfl⟩
  go_wp2_with fail
  refine (acc_at p q _ A2).mono ?_;rintro e _ ⟨rfl,rfl⟩
  go_wp2
  go_ret
  exact ⟨rfl,EG⟩
end Go.Proofs.YtilipdnchflkhaaGreatDoor.Vw
