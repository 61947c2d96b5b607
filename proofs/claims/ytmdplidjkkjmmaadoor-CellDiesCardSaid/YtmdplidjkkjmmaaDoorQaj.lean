/- Texts that this proof leans on, one behind the other: Laws15, Laws15a, Laws15f. -/
import Derived.Test.YtmdplidjkkjmmaaDoorQah
import Derived.Test.YtmdplidjkkjmmaaDoorQai
set_option linter.unusedVariables false
set_option linter.unusedSimpArgs false
set_option maxRecDepth 100000
set_option maxHeartbeats 12800000
namespace Go.Proofs.YtmdplidjkkjmmaaDoor.Cc
open Go.RowKit Go.Proofs.YtmdplidjkkjmmaaDoor.Ar Go.Proofs.YtmdplidjkkjmmaaDoor.Mx
set_option maxRecDepth 100000
theorem newD (w:World):Calls Tryd.prog 11 #[.agg #[.int .i64 2,.int .i64 4,.int .i64 100,.int .i64 1000],.int .i64 16,.int .i64 5,.int .i64 6] w fun e w'=>∃ b,e = .returned (.pointer (some ⟨b,0,none⟩))∧w.heap.size≤b∧CcIs w' b yD∧Fr [] w w':=new_any ⟨2,4,100,1000⟩ 16 5 6 w
def DvR (W:World) (b p q:Nat) (dv gv iv:Value) (wr:World):Prop:=∃ (i:Nat) (y:Cx) (s:St) (dead:Bool) (giv:Int),dv = .bool dead∧gv = .int .i64 giv∧iv = .int .i64 (i:Nat)∧DvI i y s dead giv∧CcIs wr b y∧Ar wr p q s∧Fr [b,p,q] W wr
theorem dies_any (a0 a1:Int) (a2:Bool) (w:World) (t:Word.Tab w) (h0:0≤a0∧a0≤65535) (h1:0≤a1∧a1≤255):Calls Tryd.prog 3 #[.int .u16 a0,.int .u8 a1,.bool a2] w fun e w'=>e = .returned (.bool true)∧Fr [] w w':=by
 have HK:=Lib.hid (known_true w t)
 have isE:=Er.isE
 go_enter Tryd.func3,Tryd.ntmps3
 go_wp2_with fail
 refine HK.out.mono ?_;rintro e w0 ⟨rfl,G0⟩
 clear HK
 go_wp2_with fail
 refine (Pl.conf_any 2 4 100 _).mono ?_;rintro e w1 ⟨rfl,F1⟩
 have G:=(G0.trans F1).alloc (.cells #[.int .i64 2,.int .i64 4,.int .i64 100,.int .i64 1000] 25)
 have oc:=Ob.new w1 25 #[.int .i64 2,.int .i64 4,.int .i64 100,.int .i64 1000]
 have hcw:=oc.lt
 have hw1:=(G0.trans F1).size
 obtain ⟨c0,c1,c2,c3⟩:=Pl.cells4 oc
 clear F1 G0
 go_wp2_with fail
 refine (Pl.make_yes 2 4 100 1000 (by decide) _).mono ?_;rintro e w2 ⟨p,q,rfl,hp,hq,A,F2⟩
 rw [sizeA] at hp hq
 replace oc:=oc.up F2
 have hA2:=A.lt
 replace G:=G.trans F2
 clear F2 c0 c1 c2 c3
 generalize hbc:w1.heap.size=bc at *
 have hcl:=oc.lt
 have hG:=G.size
 have HN0:=Lib.hid (show (bc≠p∧bc≠q)∧(w.heap.size≤p∧w.heap.size≤q∧w.heap.size≤bc) by omega)
 clear hcw hw1 hp hq hA2 hcl hG hbc
 obtain ⟨c0,c1,c2,c3⟩:=Pl.cells4 oc
 go_wp2_with fail
 refine (Pl.first_any 2 4 100 1000 (by decide) (by decide) _).mono ?_;rintro e w3 ⟨rfl,F3⟩
 replace A:=A.kept F3
 replace oc:=oc.up F3
 replace G:=G.trans F3
 clear F3 c0 c1 c2 c3
 rw [show (3+2+4+7:Int)=16 by decide]
 go_wp2_with fail
 refine (poke_any _ p q _ _ _ A).mono ?_;rintro e w4 ⟨rfl,A4,F4⟩
 have A4:Ar w4 p q sD:=A4
 replace oc:=oc.kept F4 (by simp;exact HN0.out.1.2)
 replace G:=G.own F4 (by simp;exact HN0.out.2.2.1)
 clear A F4
 obtain ⟨c0,c1,c2,c3⟩:=Pl.cells4 oc
 have hA:=A4.lt
 have hG:=G.size
 have hlt:=tabLt t
 go_wp2_with fail
 refine (newD _).mono ?_;rintro e w5 ⟨b,rfl,hb,D,F5⟩
 replace A4:=A4.kept F5
 replace G:=G.trans F5
 have hn:=HN0.out
 have HN:=Lib.hid (show (b≠p∧b≠q)∧(0≠p∧0≠q∧0≠b)∧(w.heap.size≤b∧w.heap.size≤p∧w.heap.size≤q) by omega)
 have HT:=Lib.hid (Gq.tab_up t G)
 have HG:=Lib.hid G
 have HB:=Lib.hid (And.intro h0 h1)
 clear oc c0 c1 c2 c3 hA hG hlt hn HN0 hb F5 G t h0
 have h8:0≤a1 % 8∧a1 % 8≤7:=by omega
 go_wp2_with fail
 refine (Pl.state_any 16 0 (by decide) (by decide) (by decide) (by decide) _).mono ?_;rintro e _ ⟨rfl,rfl⟩
 rw [show (16+7+3 * 0:Int)=23 by decide]
 go_wp2_with fail
 go_loopw [13,14,15] (DvR w5 b p q) (fun _ _ v _=>20 - (intOf v).toNat)
 case atStart=>exact ⟨0,_,_,_,_,rfl,rfl,rfl,DvI.new,D,A4,Fr.refl _ _⟩
 ·skip
  obtain ⟨i,y,s,dead,giv,rfl,rfl,rfl,hI,D2,A2,F2⟩:=hrel
  have HS:=Lib.hid (kstep_any (by rw [hI.ln];have:=hI.le;omega) (Gq.tab_kept HT.out F2 (by simp;exact ⟨HN.out.2.1.2.2,HN.out.2.1.1,HN.out.2.1.2.1⟩)) D2 A2 HN.out.1 HN.out.2.1)
  have HF:=Lib.hid F2
  have hi7:=hI.le
  have g1:decide ((i:Int)<12)=true:=by simp;omega
  have HST:=Lib.hid hI.step
  have HI7:=Lib.hid hi7
  clear D2 A2 F2 D A4 hI hi7
  go_wp2_with fail
  refine HS.out.mono ?_;rintro e w6 ⟨rfl,D3,A3,F3⟩
  have HF4:=Lib.hid (HF.out.trans F3)
  have HD:=Lib.hid (And.intro D3 A3)
  clear HF F3 D3 A3 HS
  generalize hr:y.go s=r at *
  obtain ⟨y2,s2⟩:=r
  clear hr
  rcases HST.out with ⟨e8,hfin⟩ | ⟨e8,hi6,hI⟩
  ·have g3:decide (y2.ln=8)=true:=by simpa using e8
   have HFI:=Lib.hid hfin
   have HV:=Lib.hid (kver_any hfin.f7 HD.out.1)
   have HG6:=Lib.hid (HG.out.own HF4.out (by simp;exact HN.out.2.2))
   have HA:=Lib.hid HD.out.2
   clear HF4 hfin HST e8 HD
   cases dead
   case true =>
    obtain ⟨x1,x2,x3⟩:=HFI.out.a rfl
    rw [x2,x1] at HV
    clear HFI
    go_wp2_with fail
    refine HV.out.mono ?_;rintro e w7 ⟨rfl,F7⟩
    have HA7:=Lib.hid (And.intro (HA.out.kept F7) (HG6.out.trans F7))
    clear F7 HA HG6 HV
    go_wp2_with fail
    refine (peek_any _ p q _ _ HA7.out.1).mono ?_;rintro e _ ⟨rfl,rfl⟩
    rw [x3]
    go_wp2
    go_ret
    exact ⟨rfl,HA7.out.2⟩
   case false =>
    by_cases hg:0≤giv
    ·obtain ⟨x1,x2⟩:=HFI.out.b rfl hg
     rw [x2,x1] at HV
     have g4:decide (0≤giv)=true:=by simpa using hg
     clear HFI
     go_wp2_with fail
     refine HV.out.mono ?_;rintro e w7 ⟨rfl,F7⟩
     have HG7:=Lib.hid (HG6.out.trans F7)
     clear F7 HA HG6 HV
     go_wp2
     go_ret
     exact ⟨rfl,HG7.out⟩
    ·obtain ⟨x1,x2,x3,x4⟩:=HFI.out.c rfl (by omega)
     rw [x2,x1] at HV
     have g4:decide (0≤giv)=false:=by simpa using hg
     clear HFI
     go_wp2_with fail
     refine HV.out.mono ?_;rintro e w7 ⟨rfl,F7⟩
     have HA7:=Lib.hid (And.intro (HA.out.kept F7) (HG6.out.trans F7))
     clear F7 HA HG6 HV
     go_wp2_with fail
     refine (peek_any _ p q _ _ HA7.out.1).mono ?_;rintro e _ ⟨rfl,rfl⟩
     rw [x3]
     go_wp2_with fail
     refine (peek_any _ p q _ _ HA7.out.1).mono ?_;rintro e _ ⟨rfl,rfl⟩
     rw [x4]
     go_wp2
     go_ret
     exact ⟨rfl,HA7.out.2⟩
  ·have g3:decide (y2.ln=8)=false:=by simpa using e8
   have HI:=Lib.hid hI
   clear HST e8 hI
   by_cases ha:(i:Int)=a1 % 8
   case neg =>
    have g4:((i:Int) != a1 % 8)=true:=by simpa using ha
    go_wp2_with fail
    go_roundw
    case rel=>exact ⟨i+1,y2,s2,dead,giv,rfl,rfl,by (first | (simp;done) | (simp;omega)),HI.out,HD.out.1,HD.out.2,HF4.out⟩
    case measure=>simp [intOf];omega
   have g4:((i:Int) != a1 % 8)=false:=by simpa using ha
   by_cases hs:a2=true∧peek s2.l 23=0
   ·obtain ⟨rfl,hp⟩:=hs
    obtain ⟨hJ,rfl⟩:=HI.out.shut hp
    have HJ:=Lib.hid hJ
    have HP:=Lib.hid hp
    clear hJ hp
    go_wp2_with fail
    refine (peek_any _ p q _ _ HD.out.2).mono ?_;rintro e _ ⟨rfl,rfl⟩
    rw [HP.out]
    go_wp2_with fail
    refine (poke_any _ p q _ _ _ HD.out.2).mono ?_;rintro e w7 ⟨rfl,A7,F7⟩
    have D7:=HD.out.1.kept F7 (by simp;exact HN.out.1.2)
    have F8:=HF4.out.trans (F7.mono)
    go_wp2_with fail
    go_roundw
    case rel=>exact ⟨i+1,y2,_,true,-1,rfl,rfl,by (first | (simp;done) | (simp;omega)),HJ.out,D7,A7,F8⟩
    case measure=>simp [intOf];omega
   ·by_cases hp1:peek s2.l 23=1
    ·obtain ⟨hJ,rfl⟩:=HI.out.give hp1 HB.out.1
     have HJ:=Lib.hid hJ
     have HP:=Lib.hid hp1
     clear hJ hp1 hs
     cases a2
     all_goals
      go_wp2_with fail
      refine (peek_any _ p q _ _ HD.out.2).mono ?_;rintro e _ ⟨rfl,rfl⟩
      rw [HP.out]
      go_wp2_with fail
      first
       | (refine (peek_any _ p q _ _ HD.out.2).mono ?_;rintro e _ ⟨rfl,rfl⟩;rw [HP.out];go_wp2_with fail)
       | skip
      refine (Mx.state_any _ _).mono ?_;rintro e _ ⟨rfl,rfl⟩
      go_wp2_with fail
      refine (poke_any _ p q _ _ _ HD.out.2).mono ?_;rintro e w7 ⟨rfl,A7,F7⟩
      have D7:=HD.out.1.kept F7 (by simp;exact HN.out.1.2)
      have F8:=HF4.out.trans (F7.mono)
      have e0:wrap64 a0=a0:=w64 (by have:=HB.out.1;omega) (by have:=HB.out.1;omega)
      rw [e0] at A7
      go_wp2_with fail
      go_roundw
      case rel=>exact ⟨i+1,y2,_,dead,a0,rfl,rfl,by (first | (simp;done) | (simp;omega)),HJ.out,D7,A7,F8⟩
      case measure=>simp [intOf];omega
    ·have g5:(peek s2.l 23 == 1)=false:=by simpa using hp1
     cases a2
     case false =>
      clear hs
      go_wp2_with fail
      refine (peek_any _ p q _ _ HD.out.2).mono ?_;rintro e _ ⟨rfl,rfl⟩
      go_wp2_with fail
      go_roundw
      case rel=>exact ⟨i+1,y2,s2,dead,giv,rfl,rfl,by (first | (simp;done) | (simp;omega)),HI.out,HD.out.1,HD.out.2,HF4.out⟩
      case measure=>simp [intOf];omega
     case true =>
      have g6:(peek s2.l 23 == 0)=false:=by simp at hs;simpa using hs
      clear hs
      go_wp2_with fail
      refine (peek_any _ p q _ _ HD.out.2).mono ?_;rintro e _ ⟨rfl,rfl⟩
      go_wp2_with fail
      refine (peek_any _ p q _ _ HD.out.2).mono ?_;rintro e _ ⟨rfl,rfl⟩
      go_wp2_with fail
      go_roundw
      case rel=>exact ⟨i+1,y2,s2,dead,giv,rfl,rfl,by (first | (simp;done) | (simp;omega)),HI.out,HD.out.1,HD.out.2,HF4.out⟩
      case measure=>simp [intOf];omega
set_option maxRecDepth 100000
theorem newA1 (k:Int) (w:World):Calls Tryd.prog 11 #[.agg #[.int .i64 2,.int .i64 5,.int .i64 200,.int .i64 1000],.int .i64 16,.int .i64 k,.int .i64 111] w fun e w'=>∃ b,e = .returned (.pointer (some ⟨b,0,none⟩))∧w.heap.size≤b∧CcIs w' b (xA k)∧Fr [] w w':=new_any ⟨2,5,200,1000⟩ 16 k 111 w
theorem newA2 (k:Int) (w:World):Calls Tryd.prog 11 #[.agg #[.int .i64 2,.int .i64 5,.int .i64 200,.int .i64 1000],.int .i64 16,.int .i64 k,.int .i64 222] w fun e w'=>∃ b,e = .returned (.pointer (some ⟨b,0,none⟩))∧w.heap.size≤b∧CcIs w' b (yA k)∧Fr [] w w':=new_any ⟨2,5,200,1000⟩ 16 k 222 w
def ApR (W:World) (b1 b2 p q:Nat) (k1 k2:Int) (n:Nat) (iv:Value) (wr:World):Prop:=∃ (i:Nat) (x y:Cx) (s:St),iv = .int .i64 (i:Nat)∧i≤n∧Bo x y s k1 111 k2 222∧CcIs wr b1 x∧CcIs wr b2 y∧Ar wr p q s∧Fr [b1,b2,p,q] W wr
def ApN (W:World) (b1 b2 p q:Nat) (k1 k2:Int) (iv:Value) (wr:World):Prop:=∃ (i:Nat) (x y:Cx) (s:St),iv = .int .i64 (i:Nat)∧i≤9∧(min 8 (i:Int)≤x.ln∧min 8 (i:Int)≤y.ln)∧Bo x y s k1 111 k2 222∧CcIs wr b1 x∧CcIs wr b2 y∧Ar wr p q s∧Fr [b1,b2,p,q] W wr
theorem apart_any (v0:Value) (n:Nat) (B:Nat→Bool) (a1 a2:Int) (w:World) (t:Word.Tab w) (hS:Law.Bools w v0 n B) (h1:0≤a1∧a1≤255) (h2:0≤a2∧a2≤255):Calls Tryd.prog 5 #[v0,.int .u8 a1,.int .u8 a2] w fun e w'=>e = .returned (.bool true)∧Fr [] w w':=by
 obtain ⟨ar,cap,rfl,hm1,hS⟩:=hS
 have HK:=Lib.hid (known_true w t)
 have HR:=Lib.hid hS
 have isE:=Er.isE
 clear hS
 go_enter Tryd.func5,Tryd.ntmps5
 go_wp2_with fail
 refine HK.out.mono ?_;rintro e w0 ⟨rfl,G0⟩
 clear HK
 by_cases h30:n≤30
 case neg =>
  have g1:decide ((n:Int)>30)=true:=by simp;omega
  have g2:decide (n>30)=true:=by simp;omega
  clear h30
  go_wp2_with fail
  go_ret
  exact ⟨rfl,G0⟩
 have g1:decide ((n:Int)>30)=false:=by simp;omega
 have g2:decide (n>30)=false:=by simp;omega
 have g3:decide ((30:Int)<(n:Int))=false:=by simp;omega
 go_wp2_with fail
 refine (Pl.conf_any 2 5 200 _).mono ?_;rintro e w1 ⟨rfl,F1⟩
 have G:=(G0.trans F1).alloc (.cells #[.int .i64 2,.int .i64 5,.int .i64 200,.int .i64 1000] 25)
 have oc:=Ob.new w1 25 #[.int .i64 2,.int .i64 5,.int .i64 200,.int .i64 1000]
 have hcw:=oc.lt
 have hw1':=(G0.trans F1).size
 obtain ⟨c0,c1,c2,c3⟩:=Pl.cells4 oc
 clear F1 G0
 go_wp2_with fail
 refine (Pl.make_yes 2 5 200 1000 (by decide) _).mono ?_;rintro e w2 ⟨p,q,rfl,hp,hq,A,F2⟩
 rw [sizeA] at hp hq
 replace oc:=oc.up F2
 have hA2:=A.lt
 replace G:=G.trans F2
 have A:Ar w2 p q sA:=A
 clear F2 c0 c1 c2 c3
 generalize hbc:w1.heap.size=bc at *
 have hcl:=oc.lt
 have hG:=G.size
 have HN0:=Lib.hid (show (bc≠p∧bc≠q)∧(w.heap.size≤p∧w.heap.size≤q∧w.heap.size≤bc) by omega)
 clear hcw hw1' hp hq hA2 hcl hG hbc
 obtain ⟨c0,c1,c2,c3⟩:=Pl.cells4 oc
 go_wp2_with fail
 refine (Pl.first_any 2 5 200 1000 (by decide) (by decide) _).mono ?_;rintro e w3 ⟨rfl,F3⟩
 replace A:=A.kept F3
 replace oc:=oc.up F3
 replace G:=G.trans F3
 clear F3 c0 c1 c2 c3
 rw [show (3+2+4+7:Int)=16 by decide]
 obtain ⟨c0,c1,c2,c3⟩:=Pl.cells4 oc
 have hA:=A.lt
 have hG:=G.size
 have hlt:=tabLt t
 have hk1:0≤a1 % 64∧a1 % 64≤63:=by omega
 have hk2:0≤a2 % 64∧a2 % 64≤63:=by omega
 have e1:wrap64 (a1 % 64)=a1 % 64:=w64 (by omega) (by omega)
 have e2:wrap64 (a2 % 64)=a2 % 64:=w64 (by omega) (by omega)
 go_wp2_with fail
 refine wp_region_free (by kernel_rfl) ?_
 refine any_envL [] w3 #[true,true,true,true,true,true,true,true,true,true,true,true,false,false] 12 2 rfl ?_
 refine envT_pass [true,true,true,true,true,false,true,true,true,true,true,false,false,false] 2 (n:=163) (listed':=#[true,true,true,true,true,false,true,true,true,true,true,false,false,false]) rfl (by kernel_rfl) (by kernel_rfl) (by kernel_rfl) (by kernel_rfl) (by kernel_rfl) rfl (by kernel_rfl) (fun _ _ d _ _ h=>by cases d <;> exact h) ((Fr.refl _ w3).drew) ?_
 apply Exists.intro
 refine ⟨fun wf Ff=>?_,?_⟩
 ·have k0:=In.cell (Ff.cell c0 (by simp))
  have k1:=In.cell (Ff.cell c1 (by simp))
  have k2:=In.cell (Ff.cell c2 (by simp))
  have k3:=In.cell (Ff.cell c3 (by simp))
  simp only [sel]
  repeat (go_big_quiet_step (fail))
  exact wpQuiet_nil rfl
 refine loq 5 (fun w4 F4=>?_)
 have D4:=(Fr.refl [] w3).drew.trans F4
 clear F4
 go_wp2_with fail
 refine (newA1 _ _).mono ?_;rintro e w5 ⟨b1,rfl,hb1,X1,F5⟩
 have D5:=D4.trans F5
 have hs4:=D4.size
 clear D4 F5
 go_wp2_with fail
 refine nx_normal ⟨D5,?_⟩
 refine loq 11 (fun w6 F6=>?_)
 have D6:=D5.trans F6
 have X2:=X1.up F6
 have hs5:=F6.size
 clear F6
 go_wp2_with fail
 refine (newA2 _ _).mono ?_;rintro e w7 ⟨b2,rfl,hb2,Y1,F7⟩
 have D7:=D6.trans F7
 have X3:=X2.up F7
 have hx:=X1.lt
 clear X1 X2 D6
 go_wp2_with fail
 refine nx_normal ⟨D7,?_⟩
 refine envL_tail (k:=12) rfl (by kernel_rfl) (fun w8 F8=>?_)
 have D8:=D7.trans F8
 have X:=X3.up F8
 have Y:=Y1.up F8
 have A8:=A.kept D8
 have hs3:=D5.size
 have hn:=HN0.out
 have HN:=Lib.hid (show (b1≠p∧b1≠q∧b1≠b2)∧(b2≠p∧b2≠q)∧(0≠p∧0≠q∧0≠b1∧0≠b2)∧(w.heap.size≤b1∧w.heap.size≤b2∧w.heap.size≤p∧w.heap.size≤q) by omega)
 have HT:=Lib.hid (Gq.tab_up t (G.trans D8))
 have HG:=Lib.hid (G.trans D8)
 have HL:=Lib.hid (And.intro h30 (And.intro hm1 (And.intro hk1 hk2)))
 clear t G HN0 hA hG hlt c0 c1 c2 c3 oc hs3 hs4 hs5 hb1 hb2 hx hn A D5 D7 D8 F7 F8 X3 Y1 hm1
 go_wp2_with fail
 go_loopw [13] (ApR w8 b1 b2 p q (a1 % 64) (a2 % 64) n) (fun v _=>40 - (intOf v).toNat)
 case atStart=>exact ⟨0,_,_,_,rfl,by omega,Bo.new (a1 % 64) (a2 % 64),X,Y,A8,Fr.refl _ _⟩
 ·skip
  obtain ⟨i,x,y,s,rfl,hin,hB,X2,Y2,A2,F2⟩:=hrel
  have HB:=Lib.hid hB
  have HF:=Lib.hid (And.intro X2 (And.intro Y2 (And.intro A2 F2)))
  clear hB X2 Y2 A2 F2 X Y A8
  by_cases hi:i<n
  case pos =>
   have q4:decide ((i:Int)<(n:Int))=true:=by simp;omega
   obtain h0 | ⟨b0,o0,rfl,hb0,hc0⟩:=HR.out
   ·omega
   have x1:=((HG.out.own HF.out.2.2.2 (by simp;exact HN.out.2.2.2)).cell (hc0 i hi) (by simp))
   have T2:=Gq.tab_kept HT.out HF.out.2.2.2 (by simp;exact ⟨HN.out.2.2.1.2.2.1,HN.out.2.2.1.2.2.2,HN.out.2.2.1.1,HN.out.2.2.1.2.1⟩)
   have HS1:=Lib.hid (kstep_any HB.out.hx.ln T2 HF.out.1 HF.out.2.2.1 ⟨HN.out.1.1,HN.out.1.2.1⟩ ⟨HN.out.2.2.1.1,HN.out.2.2.1.2.1,HN.out.2.2.1.2.2.1⟩)
   have HS2:=Lib.hid (kstep_any HB.out.hy.ln T2 HF.out.2.1 HF.out.2.2.1 HN.out.2.1 ⟨HN.out.2.2.1.1,HN.out.2.2.1.2.1,HN.out.2.2.1.2.2.2⟩)
   have hlm:=HL.out.2.1
   have hh30:=HL.out.1
   clear T2 hc0
   cases hBi:B i
   case true =>
    rw [hBi] at x1
    go_wp2_with fail
    refine HS1.out.mono ?_;rintro e w9 ⟨rfl,X3,A3,F3⟩
    have Y3:=HF.out.2.1.kept F3 (by simp;exact ⟨HN.out.1.2.2.symm,HN.out.2.1⟩)
    have F4:=HF.out.2.2.2.trans (F3.mono)
    go_wp2_with fail
    go_roundw
    case rel=>exact ⟨i+1,_,_,_,by simp,by omega,HB.out.step.1,X3,Y3,A3,F4⟩
    case measure=>simp [intOf];omega
   case false =>
    rw [hBi] at x1
    go_wp2_with fail
    refine HS2.out.mono ?_;rintro e w9 ⟨rfl,Y3,A3,F3⟩
    have X3:=HF.out.1.kept F3 (by simp;exact ⟨HN.out.1.2.2,HN.out.1.1,HN.out.1.2.1⟩)
    have F4:=HF.out.2.2.2.trans (F3.mono)
    go_wp2_with fail
    go_roundw
    case rel=>exact ⟨i+1,_,_,_,by simp,by omega,HB.out.symm.step.1.symm,X3,Y3,A3,F4⟩
    case measure=>simp [intOf];omega
  have q4:decide ((i:Int)<(n:Int))=false:=by simp;omega
  go_wp2_with fail
  have HG9:=Lib.hid (HG.out.own HF.out.2.2.2 (by simp;exact HN.out.2.2.2))
  have T9:=Gq.tab_kept HT.out HF.out.2.2.2 (by simp;exact ⟨HN.out.2.2.1.2.2.1,HN.out.2.2.1.2.2.2,HN.out.2.2.1.1,HN.out.2.2.1.2.1⟩)
  have HT9:=Lib.hid T9
  obtain ⟨X9,Y9,A9,-⟩:=HF.out
  have hB9:=HB.out
  clear HF HG HT T9 HB HR hin hi q4
  go_loopw [14] (ApN wr b1 b2 p q (a1 % 64) (a2 % 64)) (fun v _=>40 - (intOf v).toNat)
  case atStart=>exact ⟨0,x,y,s,rfl,by omega,⟨by have:=hB9.hx.ln;omega,by have:=hB9.hy.ln;omega⟩,hB9,X9,Y9,A9,Fr.refl _ _⟩
  ·skip
   clear hB9 X9 Y9 A9
   obtain ⟨j,x,y,s,rfl,hj,hxy,hB,X2,Y2,A2,F2⟩:=hrel
   have HB:=Lib.hid hB
   have HF:=Lib.hid (And.intro X2 (And.intro Y2 (And.intro A2 F2)))
   have HM:=Lib.hid hxy
   clear hB X2 Y2 A2 F2 hxy
   by_cases hj9:j<9
   case pos =>
    have q4:decide ((j:Int)<9)=true:=by simp;omega
    have T2:=Gq.tab_kept HT9.out HF.out.2.2.2 (by simp;exact ⟨HN.out.2.2.1.2.2.1,HN.out.2.2.1.2.2.2,HN.out.2.2.1.1,HN.out.2.2.1.2.1⟩)
    have HS1:=Lib.hid (kstep_any HB.out.hx.ln T2 HF.out.1 HF.out.2.2.1 ⟨HN.out.1.1,HN.out.1.2.1⟩ ⟨HN.out.2.2.1.1,HN.out.2.2.1.2.1,HN.out.2.2.1.2.2.1⟩)
    have HT2:=Lib.hid T2
    clear T2
    go_wp2_with fail
    refine HS1.out.mono ?_;rintro e w9 ⟨rfl,X3,A3,F3⟩
    have Y3:=HF.out.2.1.kept F3 (by simp;exact ⟨HN.out.1.2.2.symm,HN.out.2.1⟩)
    have F4:=HF.out.2.2.2.trans (F3.mono)
    have T3:=Gq.tab_kept HT2.out F3 (by simp;exact ⟨HN.out.2.2.1.2.2.1,HN.out.2.2.1.1,HN.out.2.2.1.2.1⟩)
    have hs1:=HB.out.step
    have HS2:=Lib.hid (kstep_any hs1.1.hy.ln T3 Y3 A3 HN.out.2.1 ⟨HN.out.2.2.1.1,HN.out.2.2.1.2.1,HN.out.2.2.1.2.2.2⟩)
    have HX3:=Lib.hid (And.intro X3 F4)
    have hs2:=hs1.1.symm.step
    have HZ:=Lib.hid (And.intro hs1 hs2)
    clear X3 A3 F3 Y3 F4 T3 hs1 hs2
    go_wp2_with fail
    refine HS2.out.mono ?_;rintro e w10 ⟨rfl,Y5,A5,F5⟩
    have X5:=HX3.out.1.kept F5 (by simp;exact ⟨HN.out.1.2.2,HN.out.1.1,HN.out.1.2.1⟩)
    have F6:=HX3.out.2.trans (F5.mono)
    go_wp2_with fail
    go_roundw
    case rel =>
     refine ⟨j+1,_,_,_,by simp,by omega,⟨?_,?_⟩,HZ.out.2.1.symm,X5,Y5,A5,F6⟩
     ·rw [HZ.out.1.2];have:=HM.out.1;have:=HB.out.hx.ln;split <;> omega
     ·rw [HZ.out.2.2];have:=HM.out.2;have:=HB.out.hy.ln;split <;> omega
    case measure=>simp [intOf];omega
   have q4:decide ((j:Int)<9)=false:=by simp;omega
   have hx8:x.ln=8:=by have:=HM.out.1;have:=HB.out.hx.ln;omega
   have hy8:y.ln=8:=by have:=HM.out.2;have:=HB.out.hy.ln;omega
   have fx:=HB.out.hx.f7 (by omega)
   have fy:=HB.out.hy.f7 (by omega)
   have vx:=ver_of (y:=x) (v:=0) (by omega) (by omega)
   have vy:=ver_of (y:=y) (v:=0) (by omega) (by omega)
   have px:x.plc=x.f1:=by
    have:=HB.out.hx.f1 (by omega)
    unfold Cx.plc;rw [HB.out.hx.rm,if_neg (by omega),if_neg (by omega)]
   have py:y.plc=y.f1:=by
    have:=HB.out.hy.f1 (by omega)
    unfold Cx.plc;rw [HB.out.hy.rm,if_neg (by omega),if_neg (by omega)]
   have HV1:=Lib.hid (kver_any (by rw [fx];decide) HF.out.1)
   rw [vx.1,vx.2] at HV1
   have HP1:=Lib.hid (fun wz (Fz:Fr [] wr wz)=>kplc_any (HF.out.1.up Fz))
   have HP2:=Lib.hid (fun wz (Fz:Fr [] wr wz)=>kplc_any (HF.out.2.1.up Fz))
   rw [px] at HP1
   rw [py] at HP2
   have HV2:=Lib.hid (fun wz (Fz:Fr [] wr wz)=>kver_any (by rw [fy];decide) (HF.out.2.1.up Fz))
   rw [vy.1,vy.2] at HV2
   have HAA:=Lib.hid (fun wz (Fz:Fr [] wr wz)=>HF.out.2.2.1.kept Fz (by simp) (by simp))
   have HGG:=Lib.hid (HG9.out.own HF.out.2.2.2 (by simp;exact HN.out.2.2.2))
   have HE:=Lib.hid (show (x.f1=0∨x.f1=1)∧(y.f1=0∨y.f1=1)∧x.f1≠y.f1 from ⟨HB.out.hx.f1 (by omega),HB.out.hy.f1 (by omega),HB.out.ne (by omega) (by omega)⟩)
   have HQ:=Lib.hid (show peek s.l (24+3 * x.f1)=a1 % 64∧peek s.l (25+3 * x.f1)=111∧peek s.l (24+3 * y.f1)=a2 % 64∧peek s.l (25+3 * y.f1)=222∧peek s.l 17=2 from ⟨HB.out.hx.ks (by omega),HB.out.hx.ds (by omega),HB.out.hy.ks (by omega),HB.out.hy.ds (by omega),by rw [HB.out.ct];unfold took;rw [if_pos (by omega),if_pos (by omega)];rfl⟩)
   clear HF HB HM hx8 hy8 fx fy vx vy px py HG9 HT9 hj9 hj
   generalize x.f1=i1 at *
   generalize y.f1=i2 at *
   go_wp2_with fail
   refine HV1.out.mono ?_;rintro e w9 ⟨rfl,F9⟩
   have HF9:=Lib.hid F9
   clear F9
   go_wp2_with fail
   refine (HV2.out _ HF9.out).mono ?_;rintro e w10 ⟨rfl,F10⟩
   have HF10:=Lib.hid (HF9.out.trans F10)
   clear F10
   go_wp2_with fail
   rcases (show (i1=0∧i2=1)∨(i1=1∧i2=0) by have:=HE.out;omega) with ⟨rfl,rfl⟩ | ⟨rfl,rfl⟩
   ·have HQ:=Lib.hid (show peek s.l 24=a1 % 64∧peek s.l 25=111∧peek s.l 27=a2 % 64∧peek s.l 28=222∧peek s.l 17=2 from HQ.out)
    have HP1:=Lib.hid (show ∀ wz,Fr [] wr wz→Calls Tryd.prog 17 #[.pointer (some ⟨b1,0,none⟩)] wz fun e w'=>e = .returned (.int .i64 0)∧Fr [] wz w' from HP1.out)
    have HP2:=Lib.hid (show ∀ wz,Fr [] wr wz→Calls Tryd.prog 17 #[.pointer (some ⟨b2,0,none⟩)] wz fun e w'=>e = .returned (.int .i64 1)∧Fr [] wz w' from HP2.out)
    go_wp2_with fail
    refine (HP1.out _ HF10.out).mono ?_;rintro e w11 ⟨rfl,F11⟩
    have HF11:=Lib.hid (HF10.out.trans F11)
    clear F11
    go_wp2_with fail
    refine (Pl.state_any 16 0 (by decide) (by decide) (by decide) (by decide) _).mono ?_;rintro e _ ⟨rfl,rfl⟩
    rw [show (16+7+3 * 0:Int)=23 by decide]
    go_wp2_with fail
    refine (HP2.out _ HF11.out).mono ?_;rintro e w12 ⟨rfl,F12⟩
    have HF12:=Lib.hid (HF11.out.trans F12)
    clear F12
    go_wp2_with fail
    refine (Pl.state_any 16 1 (by decide) (by decide) (by decide) (by decide) _).mono ?_;rintro e _ ⟨rfl,rfl⟩
    rw [show (16+7+3 * 1:Int)=26 by decide]
    go_wp2_with fail
    refine (HP1.out _ HF12.out).mono ?_;rintro e w13 ⟨rfl,F13⟩
    have HF13:=Lib.hid (HF12.out.trans F13)
    clear F13
    go_wp2_with fail
    refine (HP2.out _ HF13.out).mono ?_;rintro e w14 ⟨rfl,F14⟩
    have HF14:=Lib.hid (HF13.out.trans F14)
    clear F14
    go_wp2_with fail
    refine (HP1.out _ HF14.out).mono ?_;rintro e w15 ⟨rfl,F15⟩
    have HF15:=Lib.hid (HF14.out.trans F15)
    clear F15
    go_wp2_with fail
    refine (HP2.out _ HF15.out).mono ?_;rintro e w16 ⟨rfl,F16⟩
    have HF16:=Lib.hid (HF15.out.trans F16)
    clear F16
    go_wp2_with fail
    refine (peek_any _ p q _ _ (HAA.out _ HF16.out)).mono ?_;rintro e _ ⟨rfl,rfl⟩
    rw [HQ.out.2.1]
    go_wp2_with fail
    refine (peek_any _ p q _ _ (HAA.out _ HF16.out)).mono ?_;rintro e _ ⟨rfl,rfl⟩
    rw [HQ.out.2.2.2.1]
    go_wp2_with fail
    refine (peek_any _ p q _ _ (HAA.out _ HF16.out)).mono ?_;rintro e _ ⟨rfl,rfl⟩
    rw [HQ.out.1]
    go_wp2_with fail
    refine (peek_any _ p q _ _ (HAA.out _ HF16.out)).mono ?_;rintro e _ ⟨rfl,rfl⟩
    rw [HQ.out.2.2.1]
    go_wp2_with fail
    refine (peek_any _ p q _ _ (HAA.out _ HF16.out)).mono ?_;rintro e _ ⟨rfl,rfl⟩
    rw [HQ.out.2.2.2.2]
    go_wp2
    go_ret
    exact ⟨rfl,HGG.out.trans HF16.out⟩
   ·have HQ:=Lib.hid (show peek s.l 27=a1 % 64∧peek s.l 28=111∧peek s.l 24=a2 % 64∧peek s.l 25=222∧peek s.l 17=2 from HQ.out)
    have HP1:=Lib.hid (show ∀ wz,Fr [] wr wz→Calls Tryd.prog 17 #[.pointer (some ⟨b1,0,none⟩)] wz fun e w'=>e = .returned (.int .i64 1)∧Fr [] wz w' from HP1.out)
    have HP2:=Lib.hid (show ∀ wz,Fr [] wr wz→Calls Tryd.prog 17 #[.pointer (some ⟨b2,0,none⟩)] wz fun e w'=>e = .returned (.int .i64 0)∧Fr [] wz w' from HP2.out)
    go_wp2_with fail
    refine (HP1.out _ HF10.out).mono ?_;rintro e w11 ⟨rfl,F11⟩
    have HF11:=Lib.hid (HF10.out.trans F11)
    clear F11
    go_wp2_with fail
    refine (Pl.state_any 16 1 (by decide) (by decide) (by decide) (by decide) _).mono ?_;rintro e _ ⟨rfl,rfl⟩
    rw [show (16+7+3 * 1:Int)=26 by decide]
    go_wp2_with fail
    refine (HP2.out _ HF11.out).mono ?_;rintro e w12 ⟨rfl,F12⟩
    have HF12:=Lib.hid (HF11.out.trans F12)
    clear F12
    go_wp2_with fail
    refine (Pl.state_any 16 0 (by decide) (by decide) (by decide) (by decide) _).mono ?_;rintro e _ ⟨rfl,rfl⟩
    rw [show (16+7+3 * 0:Int)=23 by decide]
    go_wp2_with fail
    refine (HP1.out _ HF12.out).mono ?_;rintro e w13 ⟨rfl,F13⟩
    have HF13:=Lib.hid (HF12.out.trans F13)
    clear F13
    go_wp2_with fail
    refine (HP2.out _ HF13.out).mono ?_;rintro e w14 ⟨rfl,F14⟩
    have HF14:=Lib.hid (HF13.out.trans F14)
    clear F14
    go_wp2_with fail
    refine (HP1.out _ HF14.out).mono ?_;rintro e w15 ⟨rfl,F15⟩
    have HF15:=Lib.hid (HF14.out.trans F15)
    clear F15
    go_wp2_with fail
    refine (HP2.out _ HF15.out).mono ?_;rintro e w16 ⟨rfl,F16⟩
    have HF16:=Lib.hid (HF15.out.trans F16)
    clear F16
    go_wp2_with fail
    refine (peek_any _ p q _ _ (HAA.out _ HF16.out)).mono ?_;rintro e _ ⟨rfl,rfl⟩
    rw [HQ.out.2.1]
    go_wp2_with fail
    refine (peek_any _ p q _ _ (HAA.out _ HF16.out)).mono ?_;rintro e _ ⟨rfl,rfl⟩
    rw [HQ.out.2.2.2.1]
    go_wp2_with fail
    refine (peek_any _ p q _ _ (HAA.out _ HF16.out)).mono ?_;rintro e _ ⟨rfl,rfl⟩
    rw [HQ.out.1]
    go_wp2_with fail
    refine (peek_any _ p q _ _ (HAA.out _ HF16.out)).mono ?_;rintro e _ ⟨rfl,rfl⟩
    rw [HQ.out.2.2.1]
    go_wp2_with fail
    refine (peek_any _ p q _ _ (HAA.out _ HF16.out)).mono ?_;rintro e _ ⟨rfl,rfl⟩
    rw [HQ.out.2.2.2.2]
    go_wp2
    go_ret
    exact ⟨rfl,HGG.out.trans HF16.out⟩
set_option maxRecDepth 100000
theorem newF (n i:Nat) (w:World):Calls Tryd.prog 11 #[.agg #[.int .i64 1,.int .i64 (n:Int),.int .i64 200,.int .i64 1000],.int .i64 15,.int .i64 (i:Int),.int .i64 (100+(i:Int))] w fun e w'=>∃ b,e = .returned (.pointer (some ⟨b,0,none⟩))∧w.heap.size≤b∧CcIs w' b (yF n i)∧Fr [] w w':=new_any ⟨1,n,200,1000⟩ 15 i (100+i) w
theorem code_in:∀ n:Nat,n<16→3≤n→Pl.code 1 n 200 1000=0:=by decide +kernel
def FuR (W:World) (p q bc n N:Nat) (iv:Value) (wr:World):Prop:=∃ (i:Nat) (s:St),iv = .int .i64 (i:Nat)∧i≤N∧FuI n i s∧Ar wr p q s∧Fr [p,q] W wr
def FuS (W:World) (b p q:Nat) (y:Cx) (s:St) (m:Nat) (iv:Value) (wr:World):Prop:=∃ k:Nat,iv = .int .i64 (k:Nat)∧k<m∧CcIs wr b (runC k y s).1∧Ar wr p q (runC k y s).2∧Fr [b,p,q] W wr
theorem frNew {p q b:Nat} {w0 w w1 w':World} (h:Fr [p,q] w0 w) (k:Fr [] w w1) (hb:w0.heap.size≤b) (f:Fr [b,p,q] w1 w'):Fr [p,q] w0 w':=by
 have k1:Fr [b,p,q] w0 w':=((h.mono (by simp)).trans (k.mono (by simp))).trans f
 exact ⟨k1.os,k1.tape,k1.output,k1.size,fun j hj hn=>k1.block j hj (fun hm=>by
  rcases List.mem_cons.1 hm with e | e
  ·omega
  ·exact hn e)⟩
theorem FuI.any {n i:Nat} {s:St} (h:FuI n i s) (hn:n≤15) (hi:i≤30):∃ m:Nat,m≤7∧FuE n i s (m+1):=by
 by_cases e:i<n
 ·exact ⟨7,by omega,h.put hn e⟩
 ·exact ⟨1,by omega,h.over (by omega) hi⟩
theorem full_any (a0 a1:Int) (w:World) (t:Word.Tab w) (h0:0≤a0∧a0≤255) (h1:0≤a1∧a1≤255):Calls Tryd.prog 4 #[.int .u8 a0,.int .u8 a1] w fun e w'=>e = .returned (.bool true)∧Fr [] w w':=by
 have HK:=Lib.hid (known_true w t)
 have isE:=Er.isE
 have h13:0≤a1 % 13∧a1 % 13≤12:=by omega
 have h24:0≤a0 % 24∧a0 % 24≤23:=by omega
 obtain ⟨n,hn⟩:∃ n:Nat,3+a1 % 13=(n:Int):=⟨(3+a1 % 13).toNat,by omega⟩
 obtain ⟨N,hN⟩:∃ n:Nat,a0 % 24=(n:Int):=⟨(a0 % 24).toNat,by omega⟩
 have HN1:=Lib.hid hn
 have HN2:=Lib.hid hN
 have hn3:3≤n∧n≤15:=by omega
 have hN3:N≤23:=by omega
 clear hn hN
 go_enter Tryd.func4,Tryd.ntmps4
 go_wp2_with fail
 refine HK.out.mono ?_;rintro e w0 ⟨rfl,G0⟩
 clear HK
 go_wp2_with fail
 rw [HN1.out]
 refine (Pl.conf_any 1 n 200 _).mono ?_;rintro e w1 ⟨rfl,F1⟩
 have G:=(G0.trans F1).alloc (.cells #[.int .i64 1,.int .i64 n,.int .i64 200,.int .i64 1000] 25)
 have oc:=Ob.new w1 25 #[.int .i64 1,.int .i64 (n:Int),.int .i64 200,.int .i64 1000]
 have hcw:=oc.lt
 have hw1:=(G0.trans F1).size
 obtain ⟨c0,c1,c2,c3⟩:=Pl.cells4 oc
 clear F1 G0
 go_wp2_with fail
 refine (Pl.make_yes 1 n 200 1000 (code_in n (by omega) hn3.1) _).mono ?_;rintro e w2 ⟨p,q,rfl,hp,hq,A,F2⟩
 rw [sizeA] at hp hq
 replace oc:=oc.up F2
 have hA2:=A.lt
 replace G:=G.trans F2
 clear F2 c0 c1 c2 c3
 generalize hbc:w1.heap.size=bc at *
 have hcl:=oc.lt
 have hG:=G.size
 have HN0:=Lib.hid (show (bc≠p∧bc≠q)∧(w.heap.size≤p∧w.heap.size≤q∧w.heap.size≤bc) by omega)
 clear hcw hw1 hp hq hA2 hcl hG hbc
 obtain ⟨c0,c1,c2,c3⟩:=Pl.cells4 oc
 go_wp2_with fail
 refine (Pl.first_any 1 n 200 1000 (by decide) (by decide) _).mono ?_;rintro e w3 ⟨rfl,F3⟩
 replace A:=A.kept F3
 replace oc:=oc.up F3
 replace G:=G.trans F3
 clear F3 c0 c1 c2 c3
 rw [show (3+1+4+7:Int)=15 by decide]
 have hA:=A.lt
 have hG:=G.size
 have hlt:=tabLt t
 have hcl:=oc.lt
 have hnn:=HN0.out
 have HN:=Lib.hid (show (bc≠p∧bc≠q)∧(w.heap.size≤p∧w.heap.size≤q)∧(0≠p∧0≠q)∧(0<w3.heap.size∧bc<w3.heap.size∧p<w3.heap.size∧q<w3.heap.size) by omega)
 have HT:=Lib.hid (Gq.tab_up t G)
 have HG:=Lib.hid G
 have HO:=Lib.hid oc
 have HM:=Lib.hid (And.intro hn3 hN3)
 have hI:=FuI.new hn3.1 hn3.2
 clear t G oc hA hG hlt hcl hnn HN0 isE h13 hn3 hN3
 go_wp2_with fail
 go_loopw [9] (FuR w3 p q bc n N) (fun v _=>60 - (intOf v).toNat)
 case atStart=>exact ⟨0,_,rfl,by omega,hI,A,Fr.refl _ _⟩
 ·skip
  obtain ⟨i,s,rfl,hiN,hI2,A2,F2⟩:=hrel
  clear hI A
  have HI:=Lib.hid hI2
  have o2:=HO.out.kept F2 (by simp;exact HN.out.1)
  have HF:=Lib.hid (And.intro A2 F2)
  have T2:=Gq.tab_kept HT.out F2 (by simp;exact HN.out.2.2.1)
  have hi23:i≤23:=by have:=HM.out.2;omega
  clear hI2 A2 F2
  by_cases hi:i<N
  case pos =>
   have g1:decide ((i:Int)<a0 % 24)=true:=by have:=HN2.out;simp;omega
   obtain ⟨c0,c1,c2,c3⟩:=Pl.cells4 o2
   go_wp2_with fail
   refine (newF n i _).mono ?_;rintro e w4 ⟨b,rfl,hb,D,F4⟩
   have A4:=HF.out.1.kept F4 (by simp) (by simp)
   have hs:=HF.out.2.size
   have hnn:=HN.out
   have hlA:=HF.out.1.lt
   have hB:=Lib.hid (show (b≠p∧b≠q∧bc≠b)∧0≠b∧w3.heap.size≤b by omega)
   have T4:=Lib.hid (Gq.tab_up T2 F4)
   have HF4:=Lib.hid F4
   have HO4:=Lib.hid (o2.up F4)
   obtain ⟨m,hm,hE⟩:=HI.out.any HM.out.1.2 (by omega)
   have HE:=Lib.hid hE
   clear c0 c1 c2 c3 hs hnn hlA T2 F4 o2 hb hE
   go_wp2_with fail
   go_loopw [11] (FuS w4 b p q (yF n i) s (m+1)) (fun v _=>20 - (intOf v).toNat)
   case atStart=>exact ⟨0,rfl,by omega,D,A4,Fr.refl _ _⟩
   ·skip
    obtain ⟨k,rfl,hk,D2,A2,F2⟩:=hrel
    have HS:=Lib.hid (kstep_any (run_ln (y:=yF n i) (s:=s) (by show (0:Int)≤0∧(0:Int)≤8;decide) k) (Gq.tab_kept T4.out F2 (by simp;exact ⟨hB.out.2.1,HN.out.2.2.1⟩)) D2 A2 ⟨hB.out.1.1,hB.out.1.2.1⟩ ⟨HN.out.2.2.1.1,HN.out.2.2.1.2,hB.out.2.1⟩)
    have HF2:=Lib.hid F2
    have g9:decide ((k:Int)<12)=true:=by simp;omega
    clear D2 A2 F2 D A4
    go_wp2_with fail
    refine HS.out.mono ?_;rintro e w5 ⟨rfl,D3,A3,F3⟩
    have HF5:=Lib.hid (HF2.out.trans F3)
    clear HF2 F3
    by_cases hkm:k<m
    ·have g8:decide (((runC k (yF n i) s).1.go (runC k (yF n i) s).2).1.ln=8)=false:=by
      have:=HE.out.on (k+1) (by omega)
      simp
      show ¬ (runC (k+1) (yF n i) s).1.ln=8
      rw [this];omega
     go_wp2_with fail
     go_roundw
     case rel=>exact ⟨k+1,by simp,by omega,D3,A3,HF5.out⟩
     case measure=>simp [intOf];omega
    ·obtain rfl:k=m:=by omega
     have g8:decide (((runC k (yF n i) s).1.go (runC k (yF n i) s).2).1.ln=8)=true:=by simp;exact HE.out.off
     have D5:CcIs w5 b (runC (k+1) (yF n i) s).1:=D3
     have A5:Ar w5 p q (runC (k+1) (yF n i) s).2:=A3
     have HA:=Lib.hid A5
     have HV:=Lib.hid (kver_any HE.out.f7 D5)
     have HP:=Lib.hid (fun wz (Fz:Fr [] w5 wz)=>kplc_any (D5.up Fz))
     rw [HE.out.has] at HV
     rw [HE.out.plc] at HP
     have HZ:=Lib.hid HE.out.nx
     generalize (runC (k+1) (yF n i) s).2=se at *
     generalize (runC (k+1) (yF n i) s).1.ver=vr at *
     have o5:=HO4.out.kept HF5.out (by simp;exact ⟨hB.out.1.2.2,HN.out.1⟩)
     have HFN:=Lib.hid (frNew HF.out.2 HF4.out hB.out.2.2 HF5.out)
     clear D3 A3 D5 A5 HS
     clear HE HF4 HF5 HO4 T4
     have HO5:=Lib.hid o5
     clear o5
     by_cases hin:i<n
     ·have q1:decide (i<n)=true:=by simpa using hin
      have q2:decide ((i:Int)<(n:Int))=true:=by simpa using hin
      rw [q1] at HV
      rw [if_pos hin] at HP
      go_wp2_with fail
      refine HV.out.mono ?_;rintro e w6 ⟨rfl,F6⟩
      have HF6:=Lib.hid F6
      have o6:=HO5.out.up F6
      obtain ⟨c0,c1,c2,c3⟩:=Pl.cells4 o6
      clear F6
      go_wp2_with fail
      refine (HP.out _ HF6.out).mono ?_;rintro e w7 ⟨rfl,F7⟩
      have HF7:=Lib.hid (HF6.out.trans F7)
      clear F7 c0 c1 c2 c3 o6
      go_wp2_with fail
      go_roundw
      case rel=>exact ⟨i+1,se,by simp,by omega,HZ.out,HA.out.kept HF7.out (by simp) (by simp),HFN.out.then HF7.out⟩
      case measure=>simp [intOf];omega
     ·have q1:decide (i<n)=false:=by simpa using hin
      have q2:decide ((i:Int)<(n:Int))=false:=by simpa using hin
      rw [q1] at HV
      rw [if_neg hin] at HP
      go_wp2_with fail
      refine HV.out.mono ?_;rintro e w6 ⟨rfl,F6⟩
      have HF6:=Lib.hid F6
      have o6:=HO5.out.up F6
      obtain ⟨c0,c1,c2,c3⟩:=Pl.cells4 o6
      clear F6
      go_wp2_with fail
      refine (HP.out _ HF6.out).mono ?_;rintro e w7 ⟨rfl,F7⟩
      have HF7:=Lib.hid (HF6.out.trans F7)
      clear F7 c0 c1 c2 c3 o6
      go_wp2_with fail
      go_roundw
      case rel=>exact ⟨i+1,se,by simp,by omega,HZ.out,HA.out.kept HF7.out (by simp) (by simp),HFN.out.then HF7.out⟩
      case measure=>simp [intOf];omega
  obtain rfl:i=N:=by omega
  have g1:decide ((i:Int)<a0 % 24)=false:=by have:=HN2.out;simp;omega
  have HO2:=Lib.hid o2
  clear o2 T2
  go_wp2_with fail
  go_loopw [14] (fun v wx=>∃ j:Nat,v = .int .i64 (j:Nat)∧j≤n∧Fr [] wr wx) (fun v _=>60 - (intOf v).toNat)
  case atStart=>exact ⟨0,rfl,by omega,Fr.refl _ _⟩
  ·skip
   obtain ⟨j,rfl,hj,F3⟩:=hrel
   have HF3:=Lib.hid F3
   have o3:=HO2.out.up F3
   have A3:=Lib.hid (HF.out.1.kept F3 (by simp) (by simp))
   have hn15:=HM.out.1.2
   clear F3
   obtain ⟨c0,c1,c2,c3⟩:=Pl.cells4 o3
   by_cases hjn:j<n
   case pos =>
    have g2:decide ((j:Int)<(n:Int))=true:=by simpa using hjn
    go_wp2_with fail
    refine (Pl.state_any 15 j (by decide) (by decide) (by omega) (by omega) _).mono ?_;rintro e _ ⟨rfl,rfl⟩
    rw [show (15+7+3 * (j:Int))=22+3 * (j:Int) by omega]
    by_cases hji:j<i
    ·have g3:decide ((j:Int)<a0 % 24)=true:=by have:=HN2.out;simp;omega
     have hd:=Lib.hid (HI.out.d j hjn hji)
     go_wp2_with fail
     refine (peek_any _ p q _ _ A3.out).mono ?_;rintro e _ ⟨rfl,rfl⟩
     rw [hd.out.1]
     go_wp2_with fail
     refine (peek_any _ p q _ _ A3.out).mono ?_;rintro e _ ⟨rfl,rfl⟩
     rw [show (22+3 * (j:Int)+2)=24+3 * (j:Int) by omega,hd.out.2]
     go_wp2_with fail
     go_roundw
     case rel=>exact ⟨j+1,by simp,by omega,HF3.out⟩
     case measure=>simp [intOf];omega
    ·have g3:decide ((j:Int)<a0 % 24)=false:=by have:=HN2.out;simp;omega
     have hd:=Lib.hid (HI.out.e j hjn (by omega))
     go_wp2_with fail
     refine (peek_any _ p q _ _ A3.out).mono ?_;rintro e _ ⟨rfl,rfl⟩
     rw [hd.out]
     go_wp2_with fail
     go_roundw
     case rel=>exact ⟨j+1,by simp,by omega,HF3.out⟩
     case measure=>simp [intOf];omega
   have g2:decide ((j:Int)<(n:Int))=false:=by simp;omega
   go_wp2_with fail
   refine (peek_any _ p q _ _ A3.out).mono ?_;rintro e _ ⟨rfl,rfl⟩
   rw [HI.out.ct,← HN2.out]
   go_wp2
   go_ret
   exact ⟨rfl,(HG.out.own HF.out.2 (by simp;exact HN.out.2.1)).trans HF3.out⟩
end Go.Proofs.YtmdplidjkkjmmaaDoor.Cc
