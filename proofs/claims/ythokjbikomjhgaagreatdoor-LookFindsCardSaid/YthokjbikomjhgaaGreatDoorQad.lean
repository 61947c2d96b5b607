/- Parts. -/
import Derived.Test.YthokjbikomjhgaaGreatDoorQac
import Derived.Test.YthokjbikomjhgaaGreatDoorQaa
set_option linter.unusedVariables false
set_option linter.unusedSimpArgs false
set_option maxRecDepth 100000
namespace Go.Proofs.YthokjbikomjhgaaGreatDoor.Dk_u
open Go.RowKit Go.Maps Go.Proofs.YthokjbikomjhgaaGreatDoor.Ar Go.Proofs.YthokjbikomjhgaaGreatDoor.Mx Go.Proofs.YthokjbikomjhgaaGreatDoor.Vw
set_option linter.unusedVariables false
set_option linter.unusedSimpArgs false
set_option maxRecDepth 100000
theorem itGuard11:Tryz.prog.eqGuardType Tryz.prog.depth 74=false:=by kernel_rfl
theorem it_eql11 (k i o k' i' o':Int) (W:World):(binOp .eql 74 (.agg #[.int .i64 k,.int .i64 i,.int .i64 o]) (.agg #[.int .i64 k',.int .i64 i',.int .i64 o'])).run Tryz.prog W = .ok (.bool (k == k' && i == i' && o == o')) W:=Pq
def s0:St:=Pl.begun 1 3 100
def s1:St:=(((s0.yl 16 2).yl 25 1).yl 26 9).yl 27 5
def c1:Cf:=⟨1,3,100,1000⟩
theorem c1ok:c1.Ok:=⟨by decide,by decide,by decide,by decide,by decide,by decide,by decide,by decide,by decide⟩
def x1:Lok:=Lok.new c1 15 0 63 100
def stepsL:Nat→Lok→St→Lok×St
 | 0,x,s=>(x,s)
 | n+1,x,s=>let r:=stepsL n x s;r.1.step r.2
theorem end1:(stepsL 8 x1 s1).1.line=0:=by decide +kernel
theorem run1:∀ k,k<8→(stepsL k x1 s1).1.line≠0:=by decide +kernel
theorem its1:(stepsL 8 x1 s1).1.l=[⟨9,0,5⟩]:=by decide +kernel
theorem giv1:qw (stepsL 8 x1 s1).2.l 25=3:=by decide +kernel
theorem tabK {S:List Nat} {w w':World} (t:Word.Tab w) (f:Fr S w w') (h:2∉S):Word.Tab w':=Px
theorem tabLt {w:World} (t:Word.Tab w):2<w.heap.size:=World.block_lt_of_cell? w _ t.1
theorem steps_ok {x:Lok} {s:St} (h:Xr x):∀ n,Xr (stepsL n x s).1
 | 0=>h
 | n+1=>(steps_ok h n).step _
def wordsIn (l:List Int):Bool:=l.all fun v=>decide (v≤9223372036854775807)
theorem peek_in {l:List Int} (h:wordsIn l=true) (p:Int):qw l p≤9223372036854775807:=by
 unfold wordsIn at h;rw [List.all_eq_true] at h;unfold qw nth;split
 ·rw [List.getD_eq_getElem?_getD];cases e:l[p.toNat]? with
  | none=>simp
  | some v=>have:=h v (List.mem_of_getElem? e);simpa using this
 ·omega
theorem words1:∀ k,k<9→wordsIn (stepsL k x1 s1).2.l=true:=by decide +kernel
theorem steps_ks {x:Lok} {s:St} (h:LkS x):∀ n,(∀ k,k<n→wordsIn (stepsL k x s).2.l=true)→LkS (stepsL n x s).1
 | 0,_=>h
 | n+1,hw=>(steps_ks h n (fun k hk=>hw k A0a)).step _ (peek_in (hw n A0a))
theorem steps_line {x:Lok} {s:St} (h:0≤x.line∧x.line≤7):∀ n,0≤(stepsL n x s).1.line∧(stepsL n x s).1.line≤7
 | 0=>h
 | n+1=>by
  have hn:=steps_line (s:=s) h n;show 0≤((stepsL n x s).1.step (stepsL n x s).2).1.line∧((stepsL n x s).1.step (stepsL n x s).2).1.line≤7;unfold Lok.step;split
  ·exact next_line _ _
  ·exact hn
def LkR (W w:World) (b m p q:Nat) (x:Lok) (s:St) (v:Value) (wr:World):Prop:=∃ k n,v = .int .i64 (k:Nat)∧n≤k∧k<8∧DkIs wr b m n (stepsL k x s).1∧Ar wr p q (stepsL k x s).2∧Fr [b,m,p,q] W wr
theorem dnew1 (w:World):Calls Tryz.prog 26 #[.agg #[.int .i64 1,.int .i64 3,.int .i64 100,.int .i64 1000],.int .i64 15,.int .i64 0,.int .i64 63,.int .i64 100] w fun e w'=>∃ b m,e = .returned (.pointer (some ⟨b,0,none⟩))∧w.heap.size≤b∧w.heap.size≤m∧b≠m∧DkIs w' b m 0 x1∧Fr [] w w':=dnew_any c1 15 0 63 100 w
set_option maxHeartbeats 3200000 in
theorem known_true (w:World) (t:Word.Tab w):Calls Tryz.prog 23 #[] w fun e w'=>e = .returned (.bool true)∧Fr [] w w':=by
 have isE:=Er.isE;go_enter Tryz.func23,Tryz.ntmps23;go_wp2_with fail;refine (Pl.conf_any 1 3 100 _).mono ?_;rintro e w1 ⟨rfl,F1⟩;have G:=F1.alloc (.cells #[.int .i64 1,.int .i64 3,.int .i64 100,.int .i64 1000] 23);have oc:=Ob.new w1 23 #[.int .i64 1,.int .i64 3,.int .i64 100,.int .i64 1000];obtain ⟨c0,c1,c2,c3⟩:=Pl.yp oc;have hcw:=oc.lt;have hw1:=F1.size;clear F1;go_wp2_with fail;refine (Pl.make_yes 1 3 100 1000 A0c _).mono ?_;rintro e w2 ⟨p,q,rfl,hp,hq,A,F2⟩;rw [Yg] at hp hq;replace oc:=oc.up F2;have hcw2:=oc.lt;have hA2:=A.lt;replace G:=G.trans F2;have hG:=G.size;have A:Ar w2 p q s0:=A;clear F2 c0 c1 c2 c3;generalize hbc:w1.heap.size=bc at *;have nqc:bc≠q:=by omega
 have npc:bc≠p:=by omega
 have hwq:w.heap.size≤q:=by omega
 have hwp:w.heap.size≤p:=by omega
 obtain ⟨c0,c1,c2,c3⟩:=Pl.yp oc;go_wp2_with fail;refine (Pl.Xc 1 3 100 1000 A0c A0c _).mono ?_;rintro e w3 ⟨rfl,F3⟩;replace A:=A.kept F3 A0b A0b;replace oc:=oc.up F3;replace G:=G.trans F3;clear F3 c0 c1 c2 c3 hG hA2 hcw2 hcw;rw [show (3+1+4+7:Int)=15 by decide];go_wp2_with fail;refine (kg _ p q _ _ _ A).mono ?_;rintro e w4 ⟨rfl,A2,F2⟩;clear A;have A:Ar w4 p q (s0.yl 16 2):=A2;clear A2;replace oc:=oc.kept F2 A0j;replace G:=G.own F2 A0k;clear F2;go_wp2_with fail;refine (Pl.Qu 15 1 A0c A0c A0c A0c _).mono ?_;rintro e _ ⟨rfl,rfl⟩;go_wp2_with fail;refine (kg _ p q _ _ _ A).mono ?_;rintro e w5 ⟨rfl,A2,F2⟩;clear A;have A:Ar w5 p q ((s0.yl 16 2).yl 25 1):=A2;clear A2;replace oc:=oc.kept F2 A0j;replace G:=G.own F2 A0k;clear F2;go_wp2_with fail;refine (Pl.Qu 15 1 A0c A0c A0c A0c _).mono ?_;rintro e _ ⟨rfl,rfl⟩;go_wp2_with fail;refine (kg _ p q _ _ _ A).mono ?_;rintro e w6 ⟨rfl,A2,F2⟩;clear A;have A:Ar w6 p q (((s0.yl 16 2).yl 25 1).yl 26 9):=A2;clear A2;replace oc:=oc.kept F2 A0j;replace G:=G.own F2 A0k;clear F2;go_wp2_with fail;refine (Pl.Qu 15 1 A0c A0c A0c A0c _).mono ?_;rintro e _ ⟨rfl,rfl⟩;go_wp2_with fail;refine (kg _ p q _ _ _ A).mono ?_;rintro e w7 ⟨rfl,A2,F2⟩;clear A;have A:Ar w7 p q s1:=A2;clear A2;replace oc:=oc.kept F2 A0j;replace G:=G.own F2 A0k;clear F2;obtain ⟨c0,c1,c2,c3⟩:=Pl.yp oc;go_wp2_with fail;refine (dnew1 _).mono ?_;rintro e w8 ⟨b,m,rfl,hb,hm,nbm,D,F8⟩;have hG:=G.size;have hA:=A.lt;have hC:=oc.lt;replace oc:=oc.up F8;replace A:=A.kept F8 A0b A0b;replace G:=G.trans F8;clear F8 c0 c1 c2 c3;go_wp2_with fail;have HN:=q9 (show b≠p∧b≠q∧b≠m∧m≠p∧m≠q from ⟨by omega,by omega,nbm,by omega,by omega⟩);have t8:=tabK t G A0b;have hbt:=tabLt t;have HT:=q9 (qc t8 (show 2≠b∧2≠m∧2≠p∧2≠q by omega));have HB:=q9 (show w.heap.size≤b∧w.heap.size≤m∧w.heap.size≤p∧w.heap.size≤q by omega);have HO:=q9 oc;clear t t8 hbt hb hm nbm hG hA hC oc hp hq hw1 hwq hwp npc nqc;go_loopw [6] (LkR w8 w b m p q x1 s1) (fun v _=>20 - (intOf v).toNat);case atStart=>exact ⟨0,0,rfl,Nat.le_refl _,by omega,D,A,Fr.refl _ _⟩
 ·skip;obtain ⟨k,n,rfl,hnk,hk8,D2,A2,F2⟩:=hrel;have hst:=dstep_any (stepsL k x1 s1).1 (steps_ok (s:=s1) (Xr.new c1ok 15 0 63 100) k) (steps_ks (LkS.new c1 15 0 63 100 ⟨by omega,by omega⟩) k (fun j hj=>words1 j A0a)) (steps_line A0c k) b m n p q (stepsL k x1 s1).2 (peek_in (words1 k A0a)) _ (tabK HT.out.1 F2 (by simp;exact HT.out.2)) HT.out.2.2.2 A0a HN.out D2 A2;have HS:=q9 hst;have g1:decide ((k:Int)<20)=true:=by simp;omega
  clear hst D2 A2;go_wp2_with fail;refine HS.out.mono ?_;rintro e w9 ⟨rfl,⟨n2,hn2,D3⟩,A3,F3⟩;have F4:=F2.trans F3;by_cases hk:k<7
  ·have g2:decide ((stepsL (k+1) x1 s1).1.line=0)=false:=by simp;exact run1 (k+1) A0a
   have g3:decide (((stepsL k x1 s1).1.step (stepsL k x1 s1).2).1.line=0)=false:=g2;clear g2;go_wp2_with fail;go_roundw;case rel=>exact ⟨k+1,n2,by simp,by omega,by omega,D3,A3,F4⟩
   case measure=>simp [intOf];omega
  ·obtain rfl:k=7:=by omega
   have g3:decide (((stepsL 7 x1 s1).1.step (stepsL 7 x1 s1).2).1.line=0)=true:=by simp;exact end1
   have D4:DkIs w9 b m n2 (stepsL 8 x1 s1).1:=D3;have A4:Ar w9 p q (stepsL 8 x1 s1).2:=A3;have HI:=q9 (ditems_any (stepsL 8 x1 s1).1 (by rw [its1];simp) b m n2 A0a w9 D4);have HAA:=q9 A4;rw [its1] at HI;clear D3 A3 D4 A4 HS;go_wp2_with fail;refine HI.out.mono ?_;rintro e w10 ⟨u,rfl,hu,F10⟩;obtain ⟨a2,c2,rfl,hc2,hm2,hh⟩:=Sq.own (f:=fT) hu;have A5:=HAA.out.kept F10 A0b A0b;have F5:=F4.trans (F10.mono A0b);obtain h0 | ⟨g,off,rfl,hg,hcell⟩:=hh
   ·simp at h0
   have x0:=hcell 0 (.int .i64 9) rfl;have x1':=hcell 1 (.int .i64 0) rfl;have x2:=hcell 2 (.int .i64 5) rfl;rw [Nat.add_zero] at x0;have ie:=it_eql11 9 0 5 9 0 5;have HG:=q9 (qc A5 F5);clear hu HI HAA hcell A5 F4 F10 F2 F3;simp only [List.length_cons,List.length_nil,Nat.zero_add] at hc2 ⊢;go_wp2_with fail;refine (Pl.Qu 15 1 A0c A0c A0c A0c _).mono ?_;rintro e _ ⟨rfl,rfl⟩;go_wp2_with fail;refine (vk _ p q _ _ HG.out.1).mono ?_;rintro e w11 ⟨rfl,rfl⟩;rw [giv1];go_wp2_with fail;go_ret;exact ⟨rfl,G.own HG.out.2 (by simp;exact ⟨HB.out.1,HB.out.2.1,HB.out.2.2⟩)⟩
end Go.Proofs.YthokjbikomjhgaaGreatDoor.Dk_u
