/- Parts. -/
import Derived.Test.YthokjbikomjhgaaGreatDoorVaf
import Derived.Test.YthokjbikomjhgaaGreatDoorVas
set_option linter.unusedVariables false
set_option linter.unusedSimpArgs false
set_option maxRecDepth 100000
set_option maxHeartbeats 12800000
namespace Go.Proofs.YthokjbikomjhgaaGreatDoor.Mx
open Go.RowKit Ar Ref
def PtC (x:Pt) (dv:Value) (wp xp mp:Option Nat):Array Value:=#[.int .i64 x.c.t,.int .i64 x.c.c,.int .i64 x.c.wd,.int .i64 x.c.v,.int .i64 x.key,.int .i64 x.data,dv,xz wp,xz xp,xz mp,.bool x.over,.int .i64 x.version,.int .i64 x.e,.bool x.placed]
def Vl (w:World) (b:Nat) (x:Pt) (dv:Value) (wp xp mp:Option Nat):Prop:=Ob w b 204 (PtC x dv wp xp mp)
theorem zn {w:World} {b:Nat} {x:Pt} {dv:Value} {wp xp mp:Option Nat} (h:Vl w b x dv wp xp mp):w.cell? ⟨b,0,none⟩=some (.int .i64 x.c.t)/\w.cell? ⟨b,1,none⟩=some (.int .i64 x.c.c)/\w.cell? ⟨b,2,none⟩=some (.int .i64 x.c.wd)/\w.cell? ⟨b,3,none⟩=some (.int .i64 x.c.v)/\w.cell? ⟨b,4,none⟩=some (.int .i64 x.key)/\w.cell? ⟨b,5,none⟩=some (.int .i64 x.data)/\w.cell? ⟨b,6,none⟩=some dv/\w.cell? ⟨b,7,none⟩=some (xz wp)/\w.cell? ⟨b,8,none⟩=some (xz xp)/\w.cell? ⟨b,9,none⟩=some (xz mp)/\w.cell? ⟨b,10,none⟩=some (.bool x.over)/\w.cell? ⟨b,11,none⟩=some (.int .i64 x.version)/\w.cell? ⟨b,12,none⟩=some (.int .i64 x.e)/\w.cell? ⟨b,13,none⟩=some (.bool x.placed) :=
 ⟨h.cell rfl,h.cell rfl,h.cell rfl,h.cell rfl,h.cell rfl,h.cell rfl,h.cell rfl,h.cell rfl,h.cell rfl,h.cell rfl,h.cell rfl,h.cell rfl,h.cell rfl,h.cell rfl⟩
theorem q4n {w:World} {R B:List Nat} {b:Nat} {m:Md} (h:Ru w R B b m):∃ dv,w.cell? ⟨b,4,none⟩=some dv/\w.cell? ⟨b,6,none⟩=some (.int .i64 m.e)/\Sq fI w dv m.draws/\∀ k,k∈dv.ownBlock.toList->k∈R:=by obtain ⟨dv,fv,fr,h,-⟩:=h;exact ⟨dv,h.o.cell rfl,h.o.cell rfl,h.d,h.dr⟩
theorem put_w (x:Pt) (hc:x.c.Ok) (hw9:x.w.c=x.c/\x.w.key=x.key) (hk:0<=x.key/\x.key<=63) (ho:x.over=false) (b wb p q:Nat) (dv:Value) (s:St) (w:World) (h:Vl w b x dv (some wb) none none) (hW:Zb w wb x.w) (hA:Rar w p q s) (nbw:¬ b=wb) (nbp:¬ b=p) (nbq:¬ b=q) (nwp:wb≠p) (nwq:wb≠q) :
  Calls Tryz.prog 144 #[.pointer (some ⟨b,0,none⟩),.pointer (some ⟨p,0,none⟩)] w fun e w'=>e = .returned (.bool false)/\Zb w' wb (x.w.step s).1/\Rar w' p q (x.w.step s).2 /\
   (((x.w.step s).1.line=0/\∃ xb,w.heap.size<=xb/\Vl w' b { x with placed:=false } dv (some wb) (some xb) none/\X7 w' xb (Cl.new x.c (x.w.step s).1.at_ x.key x.data))\/((x.w.step s).1.line≠0/\Vl w' b { x with placed:=false } dv (some wb) none none))/\Fr [b,wb,p,q] w w':=by
 generalize hy:x.w.step s=y;have HY:=q9 hy;clear hy;obtain ⟨y1,y2⟩:=y;obtain ⟨c0,c1,c2,c3,c4,c5,c6,c7,c8,c9,c10,c11,c12,c13⟩:=zn h;rw [ho] at c10;have HO:=q9 ho;clear ho;unfold xz at c7 c8 c9;simp only at c7 c8 c9;have z:=h.frozen;go_enter Tryz.func144,Tryz.ntmps144;go_wp2_with fail;have h1:Vl _ b { x with placed:=false } dv (some wb) none none:=Ob.set h (i:=13) (.bool false);have W1:Zb _ wb x.w:=Ob.other hW (Ne.symm nbw) (i:=13) (.bool false);have A1:=Rar.set hA nbp nbq (i:=13) (.bool false);have D1:Fr [b,wb,p,q] w (w.setCell ⟨b,13,none⟩ (.bool false)):=Fr.setCell _ Ll;clear c0 c1 c2 c3 c4 c5 c6 c7 c8 c9 c10 c11 c12 c13 z h hW hA;generalize (w.setCell ⟨b,13,none⟩ (.bool false))=w1 at *;refine (Ka x.w (by rw [hw9.1];exact hc) (by rw [hw9.2];exact hk) wb p q s w1 W1 A1 nwp nwq).mono ?_;rintro e w2 ⟨rfl,W2,A2,F2⟩;have h2:=Ob.kept h1 F2 (by simp;exact ⟨nbw,nbp,nbq⟩);have D2:Fr [b,wb,p,q] w w2:=D1.trans (F2.mono);rw [HY.out] at W2 A2 ⊢;simp only at W2 A2 ⊢;clear h1 W1 A1 D1 F2;by_cases hl0:y1.line=0
 ·have g0:decide (y1.line=0)=true:=by simpa using hl0
  rw [g0];have HL0:=q9 hl0;clear hl0 g0;go_wp2_with fail;refine qp Lm ?_;refine za [] w2 #[true,true,true,true,true,true,true,true,true,true,true,true,true,true,true,true,true,true,true,true,true,false,false,false] 21 3 rfl ?_;refine lpq [true,true,true,true,true,true,true,true,true,true,true,true,true,true,true,true,true,true,true,true,false,false,false,false] 1 ((Fr.refl _ _).drew) ?_;apply qg;refine ⟨fun wf Ff=>?_,?_⟩
  ·obtain ⟨c0,c1,c2,c3,c4,c5,c6,c7,c8,c9,c10,c11,c12,c13⟩:=zn (Ob.up h2 Ff);unfold xz at c7 c8 c9;simp only at c7 c8 c9;have y9:=(xd (Ob.up W2 Ff)).2.2.2.2.2.2.2.2.2;have j0:=qb c0;have j1:=qb c1;have j2:=qb c2;have j3:=qb c3;have j4:=qb c4;have j5:=qb c5;have j7:=qb c7;have j9:=qb y9;clear c0 c1 c2 c3 c4 c5 c6 c7 c8 c9 c10 c11 c12 c13 y9;exact Ab
  refine loq 20 (fun w3 F3=>?_);have E:=((Fr.refl [] w2).drew.trans F3);clear F3;go_wp2_with fail;refine (q0k x.c y1.at_ x.key x.data w3).mono ?_;rintro e w4 ⟨xb,rfl,hxb,X4,F4⟩;have hE:=E.size;replace E:=E.trans F4;clear F4;go_wp2_with fail;refine ql ⟨E,?_⟩;refine qy (k:=21) rfl Lm (fun w5 F5=>?_);replace E:=E.trans F5;have X5:=Ob.up X4 F5;have h5:=Ob.up h2 E;have W5:=Ob.up W2 E;have A5:=A2.kept E;have D5:=D2.then E;have HXB:=q9 (qh D2.size (qh hE hxb));have nbx:¬ b=xb:=by have:=Ob.lt h2;omega
  clear h2 W2 A2 D2 E F5 X4 hxb hE;obtain ⟨c0,c1,c2,c3,c4,c5,c6,c7,c8,c9,c10,c11,c12,c13⟩:=zn h5;have z:=h5.frozen;go_wp2_with fail;go_ret;exact ⟨Eq.trans (b:=.returned (.bool x.over)) rfl O9,Ob.other W5 (Ne.symm nbw) _,Rar.set A5 nbp nbq _,.inl ⟨HL0.out,xb,HXB.out,Ob.set h5 _,Ob.other X5 (Ne.symm nbx) _⟩,D5.trans (Fr.setCell _ Ll)⟩
 ·have g0:decide (y1.line=0)=false:=by simpa using hl0
  rw [g0];have HL0:=q9 hl0;clear hl0 g0;obtain ⟨c0,c1,c2,c3,c4,c5,c6,c7,c8,c9,c10,c11,c12,c13⟩:=zn h2;go_wp2_with fail;go_ret;exact ⟨Eq.trans (b:=.returned (.bool x.over)) rfl O9,W2,A2,.inr ⟨HL0.out,h2⟩,D2⟩
def AftX (w w':World) (R:List Nat) (b xb:Nat) (x:Pt) (dv:Value) (wp:Option Nat) (y:Cl) (pl:Bool) (e:Ending):Prop :=
 (y.line≠0/\e = .returned (.bool false)/\Vl w' b { x with placed:=pl } dv wp (some xb) none) \/
 (y.line=0/\0<=y.version/\e = .returned (.bool true)/\Vl w' b { x with placed:=pl,version:=y.version,over:=true } dv wp (some xb) none) \/
 (y.line=0/\y.version<0/\e = .returned (.bool false)/\∃ mb B,Vl w' b { x with placed:=pl } dv wp (some xb) (some mb)/\Ru w' R B mb (Md.new x.c y.chunk x.draws)/\∀ k,k∈B->w.heap.size<=k)
theorem put_x (x:Pt) (hc:x.c.Ok) (cl:Cl) (hcl:cl.c.Ok) (ho:x.over=false) (b xb p q:Nat) (dv:Value) (wp:Option Nat) (R:List Nat) (s:St) (w:World) (h:Vl w b x dv wp (some xb) none) (hX:X7 w xb cl) (hA:Rar w p q s) (hD:Sq fI w dv x.draws) (hdR:∀ k,k∈dv.ownBlock.toList->k∈R) (hR:∀ k,k∈R->k<w.heap.size) (nR:b∉R/\xb∉R/\p∉R/\q∉R) (nbx:¬ b=xb) (nbp:¬ b=p) (nbq:¬ b=q) (nxp:xb≠p) (nxq:xb≠q) :
  Calls Tryz.prog 144 #[.pointer (some ⟨b,0,none⟩),.pointer (some ⟨p,0,none⟩)] w fun e w'=>AftX w w' R b xb x dv wp (cl.step s).1 (decide (cl.i<0) && decide (0<=(cl.step s).1.i)) e/\X7 w' xb (cl.step s).1/\Rar w' p q (cl.step s).2/\Fr [b,xb,p,q] w w':=by
 generalize hy:cl.step s=y;have HY:=q9 hy;clear hy;obtain ⟨y1,y2⟩:=y;simp only;have HD:=q9 (fun W (F:Fr [b,xb,p,q] w W)=>hD.kept F (fun k hk hi=>by simp only [List.mem_cons,List.not_mem_nil,or_false] at hi;rcases hi with rfl | rfl | rfl | rfl;exact nR.1 (hdR _ hk);exact nR.2.1 (hdR _ hk);exact nR.2.2.1 (hdR _ hk);exact nR.2.2.2 (hdR _ hk)));clear hD;generalize hpl:(decide (cl.i<0) && decide (0<=y1.i))=pl;have HPL0:=q9 hpl;clear hpl;obtain ⟨c0,c1,c2,c3,c4,c5,c6,c7,c8,c9,c10,c11,c12,c13⟩:=zn h;rw [ho] at c10;have HO:=q9 ho;clear ho;unfold xz at c8 c9;simp only at c8 c9;obtain ⟨-,-,-,-,u4,-,-,-,u8,-,u10⟩:=zu hX;have z:=h.frozen;by_cases hi0:cl.i<0
 focus
  have gi:decide (cl.i<0)=true:=by simpa using hi0
  by_cases hj0:0<=y1.i
  ·have gj:decide (y1.i≥0)=true:=by simpa using hj0
   have HPL:=q9 (show pl=true by rw [<- HPL0.out];simp [hi0,hj0])
   clear hi0 hj0
   go_enter Tryz.func144,Tryz.ntmps144
   go_wp2_with fail
   have h1:Vl _ b { x with placed:=false } dv wp (some xb) none:=Ob.set h (i:=13) (.bool false)
   have X1:X7 _ xb cl:=Ob.other hX (Ne.symm nbx) (i:=13) (.bool false)
   have A1:=Rar.set hA nbp nbq (i:=13) (.bool false)
   have D1:Fr [b,xb,p,q] w (w.setCell ⟨b,13,none⟩ (.bool false)):=Fr.setCell _ Ll
   clear c0 c1 c2 c3 c4 c5 c6 c7 c8 c9 c10 c11 c12 c13 z h hX hA u4 u8 u10
   generalize (w.setCell ⟨b,13,none⟩ (.bool false))=w1 at *
   refine (R4 cl hcl xb p q s w1 X1 A1 nxp nxq).mono ?_;rintro e w2 ⟨rfl,X2,A2,F2⟩
   have h2:=Ob.kept h1 F2 (by simp;exact ⟨nbx,nbp,nbq⟩)
   have D2:Fr [b,xb,p,q] w w2:=D1.trans (F2.mono)
   rw [HY.out] at X2 A2 ⊢
   simp only at X2 A2 ⊢
   clear h1 X1 A1 D1 F2
   by_cases hl0:y1.line=0
   ·have g0:decide (y1.line=0)=true:=by simpa using hl0
    rw [g0]
    have HL0:=q9 hl0
    clear hl0 g0
    obtain ⟨c0,c1,c2,c3,c4,c5,c6,c7,c8,c9,c10,c11,c12,c13⟩:=zn h2
    unfold xz at c8
    simp only at c8
    obtain ⟨-,-,-,-,u4,-,-,-,u8,-,u10⟩:=zu X2
    have z:=h2.frozen
    by_cases hv0:0<=y1.version
    ·have gv:decide (y1.version≥0)=true:=by simpa using hv0
     have HV0:=q9 hv0
     clear hv0
     go_wp2_with fail
     go_ret
     exact ⟨by rw [HPL.out];exact .inr (.inl ⟨HL0.out,HV0.out,rfl,(Ob.set (Ob.set (Ob.set h2 _) (i:=10) (.bool true)) (i:=13) (.bool true))⟩),Ob.other (Ob.other (Ob.other X2 (Ne.symm nbx) _) (Ne.symm nbx) _) (Ne.symm nbx) _,Rar.set (Rar.set (Rar.set A2 nbp nbq _) nbp nbq (i:=10) (.bool true)) nbp nbq (i:=13) (.bool true),((D2.trans (Fr.setCell _ Ll)).setCell' _ Ll).trans (Fr.setCell _ Ll)⟩
    have gv:decide (y1.version≥0)=false:=by simpa using hv0
    have HV0:=q9 hv0
    clear hv0
    go_wp2_with fail
    clear c0 c1 c2 c3 c4 c5 c6 c7 c8 c9 c10 c11 c12 c13 z u4 u8 u10 gv
    refine qp Lm ?_
    refine za [] w2 #[true,true,true,true,true,true,true,true,true,true,true,true,true,true,true,true,true,false,false,false] 17 3 rfl ?_
    refine lpq [true,true,true,true,true,true,true,true,true,true,true,true,true,true,true,true,false,false,false,false] 1 ((Fr.refl _ _).drew) ?_
    apply qg
    refine ⟨fun wf Ff=>?_,?_⟩
    ·obtain ⟨c0,c1,c2,c3,c4,c5,c6,c7,c8,c9,c10,c11,c12,c13⟩:=zn (Ob.up h2 Ff)
     unfold xz at c8
     simp only at c8
     obtain ⟨-,-,-,-,u4,-,-,-,u8,-,u10⟩:=zu (Ob.up X2 Ff)
     have j0:=qb c0
     have j1:=qb c1
     have j2:=qb c2
     have j3:=qb c3
     have j6:=qb c6
     have j8:=qb c8
     have k4:=qb u4
     clear c0 c1 c2 c3 c4 c5 c6 c7 c8 c9 c10 c11 c12 c13 u4 u8 u10
     simp only [sel]
     repeat (go_big_quiet_step (fail))
     exact wpQuiet_nil rfl
    refine loq 16 (fun w3 F3=>?_)
    have E:=((Fr.refl [] w2).drew.trans F3)
    clear F3
    go_wp2_with fail
    refine (Kz x.c hc y1.chunk x.draws dv R w3 (HD.out _ (D2.then E)) hdR (fun k hk=>qj (hR k hk) (qh D2.size E.size))).mono ?_;rintro e w4 ⟨mb,B,rfl,M4,hB,F4⟩
    have hE:=E.size
    replace E:=E.trans F4
    clear F4
    go_wp2_with fail
    refine ql ⟨E,?_⟩
    refine qy (k:=17) rfl Lm (fun w5 F5=>?_)
    replace E:=E.trans F5
    have M5:=M4.kept F5 Ll Ll
    have h5:=Ob.up h2 E
    have X5:=Ob.up X2 E
    have A5:=A2.kept E
    have D5:=D2.then E
    have HB:=q9 (fun k hk=>qh D2.size (qh hE (hB k hk)))
    have nbB:b∉B:=fun hi=>by have:=hB b hi;have:=Ob.lt h2;omega
    clear h2 X2 A2 D2 E F5 M4 hB hE
    obtain ⟨c0,c1,c2,c3,c4,c5,c6,c7,c8,c9,c10,c11,c12,c13⟩:=zn h5
    unfold xz at c8
    simp only at c8
    obtain ⟨-,-,-,-,u4,-,-,-,u8,-,u10⟩:=zu X5
    have z:=h5.frozen
    have HM5:=q9 M5
    clear M5
    go_wp2_with fail
    go_ret
    have SF:Fr [b] w5 ((w5.setCell ⟨b,9,none⟩ (.pointer (some ⟨mb,0,none⟩))).setCell ⟨b,13,none⟩ (.bool true)):=(Fr.setCell _ Ll).setCell' _ Ll
    exact ⟨by rw [HPL.out];exact .inr (.inr ⟨HL0.out,by have:=HV0.out;omega,Eq.trans (b:=.returned (.bool x.over)) rfl O9,mb,B,Ob.set (Ob.set h5 _) (i:=13) (.bool true),HM5.out.kept SF (fun k hk hi=>by simp at hi;subst hi;exact nbB hk) (fun k hk hi=>by simp at hi;subst hi;exact nR.1 hk),HB.out⟩),Ob.other (Ob.other X5 (Ne.symm nbx) _) (Ne.symm nbx) _,Rar.set (Rar.set A5 nbp nbq _) nbp nbq (i:=13) (.bool true),D5.trans (SF.mono)⟩
   have g0:decide (y1.line=0)=false:=by simpa using hl0
   rw [g0]
   have HL0:=q9 hl0
   clear hl0 g0
   obtain ⟨c0,c1,c2,c3,c4,c5,c6,c7,c8,c9,c10,c11,c12,c13⟩:=zn h2
   unfold xz at c8
   simp only at c8
   obtain ⟨-,-,-,-,u4,-,-,-,u8,-,u10⟩:=zu X2
   have z:=h2.frozen
   go_wp2_with fail
   go_ret
   exact ⟨by rw [HPL.out];exact .inl ⟨HL0.out,Eq.trans (b:=.returned (.bool x.over)) rfl O9,(Ob.set h2 _)⟩,Ob.other X2 (Ne.symm nbx) _,Rar.set A2 nbp nbq _,D2.trans (Fr.setCell _ Ll)⟩
  have gj:decide (y1.i≥0)=false:=by simpa using hj0
  have HPL:=q9 (show pl=false by rw [<- HPL0.out];simp [hj0])
  clear hi0 hj0
 rotate_left
 focus
  have gi:decide (cl.i<0)=false:=by simpa using hi0
  have HPL:=q9 (show pl=false by rw [<- HPL0.out];simp [hi0])
  clear hi0
 rotate_left
 all_goals
  go_enter Tryz.func144,Tryz.ntmps144
  go_wp2_with fail
  have h1:Vl _ b { x with placed:=false } dv wp (some xb) none:=Ob.set h (i:=13) (.bool false)
  have X1:X7 _ xb cl:=Ob.other hX (Ne.symm nbx) (i:=13) (.bool false)
  have A1:=Rar.set hA nbp nbq (i:=13) (.bool false)
  have D1:Fr [b,xb,p,q] w (w.setCell ⟨b,13,none⟩ (.bool false)):=Fr.setCell _ Ll
  clear c0 c1 c2 c3 c4 c5 c6 c7 c8 c9 c10 c11 c12 c13 z h hX hA u4 u8 u10
  generalize (w.setCell ⟨b,13,none⟩ (.bool false))=w1 at *
  refine (R4 cl hcl xb p q s w1 X1 A1 nxp nxq).mono ?_;rintro e w2 ⟨rfl,X2,A2,F2⟩
  have h2:=Ob.kept h1 F2 (by simp;exact ⟨nbx,nbp,nbq⟩)
  have D2:Fr [b,xb,p,q] w w2:=D1.trans (F2.mono)
  rw [HY.out] at X2 A2 ⊢
  simp only at X2 A2 ⊢
  clear h1 X1 A1 D1 F2
  by_cases hl0:y1.line=0
  ·have g0:decide (y1.line=0)=true:=by simpa using hl0
   rw [g0]
   have HL0:=q9 hl0
   clear hl0 g0
   obtain ⟨c0,c1,c2,c3,c4,c5,c6,c7,c8,c9,c10,c11,c12,c13⟩:=zn h2
   unfold xz at c8
   simp only at c8
   obtain ⟨-,-,-,-,u4,-,-,-,u8,-,u10⟩:=zu X2
   have z:=h2.frozen
   by_cases hv0:0<=y1.version
   ·have gv:decide (y1.version≥0)=true:=by simpa using hv0
    have HV0:=q9 hv0
    clear hv0
    go_wp2_with fail
    go_ret
    exact ⟨by rw [HPL.out];exact .inr (.inl ⟨HL0.out,HV0.out,rfl,(Ob.set (Ob.set (Ob.set h2 _) (i:=10) (.bool true)) (i:=13) (.bool false))⟩),Ob.other (Ob.other (Ob.other X2 (Ne.symm nbx) _) (Ne.symm nbx) _) (Ne.symm nbx) _,Rar.set (Rar.set (Rar.set A2 nbp nbq _) nbp nbq (i:=10) (.bool true)) nbp nbq (i:=13) (.bool false),((D2.trans (Fr.setCell _ Ll)).setCell' _ Ll).trans (Fr.setCell _ Ll)⟩
   have gv:decide (y1.version≥0)=false:=by simpa using hv0
   have HV0:=q9 hv0
   clear hv0
   go_wp2_with fail
   clear c0 c1 c2 c3 c4 c5 c6 c7 c8 c9 c10 c11 c12 c13 z u4 u8 u10 gv
   refine qp Lm ?_
   refine za [] w2 #[true,true,true,true,true,true,true,true,true,true,true,true,true,true,true,true,true,false,false,false] 17 3 rfl ?_
   refine lpq [true,true,true,true,true,true,true,true,true,true,true,true,true,true,true,true,false,false,false,false] 1 ((Fr.refl _ _).drew) ?_
   apply qg
   refine ⟨fun wf Ff=>?_,?_⟩
   ·obtain ⟨c0,c1,c2,c3,c4,c5,c6,c7,c8,c9,c10,c11,c12,c13⟩:=zn (Ob.up h2 Ff)
    unfold xz at c8
    simp only at c8
    obtain ⟨-,-,-,-,u4,-,-,-,u8,-,u10⟩:=zu (Ob.up X2 Ff)
    have j0:=qb c0
    have j1:=qb c1
    have j2:=qb c2
    have j3:=qb c3
    have j6:=qb c6
    have j8:=qb c8
    have k4:=qb u4
    clear c0 c1 c2 c3 c4 c5 c6 c7 c8 c9 c10 c11 c12 c13 u4 u8 u10
    simp only [sel]
    repeat (go_big_quiet_step (fail))
    exact wpQuiet_nil rfl
   refine loq 16 (fun w3 F3=>?_)
   have E:=((Fr.refl [] w2).drew.trans F3)
   clear F3
   go_wp2_with fail
   refine (Kz x.c hc y1.chunk x.draws dv R w3 (HD.out _ (D2.then E)) hdR (fun k hk=>qj (hR k hk) (qh D2.size E.size))).mono ?_;rintro e w4 ⟨mb,B,rfl,M4,hB,F4⟩
   have hE:=E.size
   replace E:=E.trans F4
   clear F4
   go_wp2_with fail
   refine ql ⟨E,?_⟩
   refine qy (k:=17) rfl Lm (fun w5 F5=>?_)
   replace E:=E.trans F5
   have M5:=M4.kept F5 Ll Ll
   have h5:=Ob.up h2 E
   have X5:=Ob.up X2 E
   have A5:=A2.kept E
   have D5:=D2.then E
   have HB:=q9 (fun k hk=>qh D2.size (qh hE (hB k hk)))
   have nbB:b∉B:=fun hi=>by have:=hB b hi;have:=Ob.lt h2;omega
   clear h2 X2 A2 D2 E F5 M4 hB hE
   obtain ⟨c0,c1,c2,c3,c4,c5,c6,c7,c8,c9,c10,c11,c12,c13⟩:=zn h5
   unfold xz at c8
   simp only at c8
   obtain ⟨-,-,-,-,u4,-,-,-,u8,-,u10⟩:=zu X5
   have z:=h5.frozen
   have HM5:=q9 M5
   clear M5
   go_wp2_with fail
   go_ret
   have SF:Fr [b] w5 ((w5.setCell ⟨b,9,none⟩ (.pointer (some ⟨mb,0,none⟩))).setCell ⟨b,13,none⟩ (.bool false)):=(Fr.setCell _ Ll).setCell' _ Ll
   exact ⟨by rw [HPL.out];exact .inr (.inr ⟨HL0.out,by have:=HV0.out;omega,Eq.trans (b:=.returned (.bool x.over)) rfl O9,mb,B,Ob.set (Ob.set h5 _) (i:=13) (.bool false),HM5.out.kept SF (fun k hk hi=>by simp at hi;subst hi;exact nbB hk) (fun k hk hi=>by simp at hi;subst hi;exact nR.1 hk),HB.out⟩),Ob.other (Ob.other X5 (Ne.symm nbx) _) (Ne.symm nbx) _,Rar.set (Rar.set A5 nbp nbq _) nbp nbq (i:=13) (.bool false),D5.trans (SF.mono)⟩
  have g0:decide (y1.line=0)=false:=by simpa using hl0
  rw [g0]
  have HL0:=q9 hl0
  clear hl0 g0
  obtain ⟨c0,c1,c2,c3,c4,c5,c6,c7,c8,c9,c10,c11,c12,c13⟩:=zn h2
  unfold xz at c8
  simp only at c8
  obtain ⟨-,-,-,-,u4,-,-,-,u8,-,u10⟩:=zu X2
  have z:=h2.frozen
  go_wp2_with fail
  go_ret
  exact ⟨by rw [HPL.out];exact .inl ⟨HL0.out,Eq.trans (b:=.returned (.bool x.over)) rfl O9,(Ob.set h2 _)⟩,Ob.other X2 (Ne.symm nbx) _,Rar.set A2 nbp nbq _,D2.trans (Fr.setCell _ Ll)⟩
def Cm (w4:World) (b mb:Nat) (e:Int) (w':World):Prop:=w'.cell? ⟨b,9,none⟩=some (.pointer (some ⟨mb,0,none⟩))/\w'.cell? ⟨mb,6,none⟩=some (.int .i64 e)/\Fr [b] w4 w'
theorem Cm.up {w4:World} {b mb:Nat} {e:Int}:∀ w w2,Cm w4 b mb e w->Fr [] w w2->Cm w4 b mb e w2:=fun w w2 h f=>⟨f.cell h.1 Ll,f.cell h.2.1 Ll,h.2.2.then f⟩
def AftM (w w':World) (R:List Nat) (b mb:Nat) (x:Pt) (wp xp:Option Nat) (Bm:List Nat) (y:Md) (e:Ending):Prop :=
 (y.f≠[]/\e = .returned (.bool false)/\∃ dv' B',Vl w' b { x with placed:=false } dv' wp xp (some mb)/\Sq fI w' dv' y.draws/\(∀ k,k∈dv'.ownBlock.toList->k∈R)/\Ru w' R B' mb y/\∀ k,k∈B'->k∈Bm\/w.heap.size<=k) \/
 (y.f=[]/\e = .returned (.bool (decide (y.e≠0)))/\∃ dv' wb,Vl w' b { x with placed:=false,e:=y.e,over:=decide (y.e≠0) } dv' (some wb) none none/\Sq fI w' dv' y.draws/\(∀ k,k∈dv'.ownBlock.toList->k∈R)/\w.heap.size<=wb/\Zb w' wb (Wk.new x.c x.key))
theorem put_m (N:Nat) (hN:N<=90000) (x:Pt) (mm:Md) (hm:Xg N mm) (hne:mm.f≠[]) (ho:x.over=false) (b mb p q:Nat) (dv:Value) (wp xp:Option Nat) (R Bm:List Nat) (s:St) (w:World) (h:Vl w b x dv wp xp (some mb)) (hM:Ru w R Bm mb mm) (hA:Rar w p q s) (nB:b∉Bm/\p∉Bm/\q∉Bm) (nR:b∉R/\p∉R/\q∉R) (nbp:¬ b=p) (nbq:¬ b=q) (nbm:¬ b=mb) :
  Calls Tryz.prog 144 #[.pointer (some ⟨b,0,none⟩),.pointer (some ⟨p,0,none⟩)] w fun e w'=>AftM w w' R b mb x wp xp Bm (mm.step s).1 e/\Rar w' p q (mm.step s).2/\Fr (b :: p :: q :: Bm) w w':=by
 generalize hy:mm.step s=y;have HY:=q9 hy;clear hy;obtain ⟨y1,y2⟩:=y;simp only;obtain ⟨c0,c1,c2,c3,c4,c5,c6,c7,c8,c9,c10,c11,c12,c13⟩:=zn h;rw [ho] at c10;have HO:=q9 ho;clear ho;unfold xz at c9;simp only at c9;have z:=h.frozen;go_enter Tryz.func144,Tryz.ntmps144;go_wp2_with fail;have h1:Vl _ b { x with placed:=false } dv wp xp (some mb):=Ob.set h (i:=13) (.bool false);have SF:Fr [b] w (w.setCell ⟨b,13,none⟩ (.bool false)):=Fr.setCell _ Ll;have M1:=hM.kept SF (fun k hk hi=>by simp at hi;subst hi;exact nB.1 hk) (fun k hk hi=>by simp at hi;subst hi;exact nR.1 hk);have A1:=Rar.set hA nbp nbq (i:=13) (.bool false);have D1:Fr (b :: p :: q :: Bm) w (w.setCell ⟨b,13,none⟩ (.bool false)):=SF.mono;clear c0 c1 c2 c3 c4 c5 c6 c7 c8 c9 c10 c11 c12 c13 z h hM hA SF;generalize (w.setCell ⟨b,13,none⟩ (.bool false))=w1 at *;refine (qcg N hN mm hm hne R Bm mb p q s w1 M1 A1 nB.2.1 nB.2.2 nR.2.1 nR.2.2).mono ?_;rintro e w2 ⟨rfl,⟨B',M2,hB2⟩,A2,F2⟩;have h2:Vl w2 b { x with placed:=false } dv wp xp (some mb):=Ob.kept h1 F2 (by simp;exact ⟨nbp,nbq,nB.1⟩);have D2:Fr (b :: p :: q :: Bm) w w2:=D1.trans (F2.mono N9);have HB2:=q9 (fun k hk=>(hB2 k hk).imp id (fun e=>qh D1.size e));rw [HY.out] at M2 A2 ⊢;simp only at M2 A2 ⊢;have nB':b∉B':=fun hi=>by rcases hB2 b hi with e | e;exact nB.1 e;have:=Ob.lt h1;omega
 clear h1 M1 A1 D1 F2 hB2;obtain ⟨dv',m4,m6,S2,R2⟩:=q4n M2;obtain ⟨ad,cd,rfl,-,-,-⟩:=id S2;obtain ⟨c0,c1,c2,c3,c4,c5,c6,c7,c8,c9,c10,c11,c12,c13⟩:=zn h2;unfold xz at c9;simp only at c9;have z:=h2.frozen;have HM:=q9 (qc M2 (qc S2 R2));clear M2 S2 R2;have nbd:b∉(Value.slice ad y1.draws.length cd).ownBlock.toList:=fun hi=>nR.1 (HM.out.2.2 b hi)
 by_cases hf0:y1.f=[]
 ·have g0:decide (y1.f=[])=true:=by simpa using hf0
  rw [g0];have HF0:=q9 hf0;clear hf0 g0;go_wp2_with fail;have h3:Vl _ b { x with placed:=false } (.slice ad y1.draws.length cd) wp xp (some mb):=Ob.set h2 (i:=6) (.slice ad y1.draws.length cd);have SF:Fr [b] w2 (w2.setCell ⟨b,6,none⟩ (.slice ad y1.draws.length cd)):=Fr.setCell _ Ll;have HM3:=q9 (qc (HM.out.1.kept SF (fun k hk hi=>by simp at hi;subst hi;exact nB' hk) (fun k hk hi=>by simp at hi;subst hi;exact nR.1 hk)) (HM.out.2.1.kept SF (fun k hk hi=>by simp at hi;subst hi;exact nbd hk)));have A3:=Rar.set A2 nbp nbq (i:=6) (.slice ad y1.draws.length cd);have D3:=D2.trans (SF.mono (T:=b :: p :: q :: Bm) Ll);have m63:=SF.cell m6 Oy;clear c0 c1 c2 c3 c4 c5 c6 c7 c8 c9 c10 c11 c12 c13 z h2 A2 D2 SF m4 m6;generalize (w2.setCell ⟨b,6,none⟩ (.slice ad y1.draws.length cd))=w3 at *;have c93:w3.cell? ⟨b,9,none⟩=some (.pointer (some ⟨mb,0,none⟩)):=h3.cell rfl;refine qp Lm ?_;refine q2o (Cm w3 b mb y1.e) #[true,true,true,true,true,true,true,true,true,true,true,true,true,true,true,true,true,true,true,true,true,true,true] 23 0 rfl ?_;refine Sw Cm.up [true,true,true,true,true,true,true,true,true,true,true,true,true,true,true,true,true,false,false,false,false,false,false] 6 (n:=184) (listed':=#[true,true,true,true,true,true,true,true,true,true,true,true,true,true,true,true,true,false,false,false,false,false,false]) rfl Lm Lm Lm Lm rfl Lm (fun _ _ d _ _ h=>by cases d <;> exact h) (Cm.up w3 _ ⟨c93,m63,Fr.refl _ _⟩ ((Fr.refl _ _).drew)) ?_;apply qg;refine ⟨fun wf hf=>?_,?_⟩
  ·have k9:=qb hf.1;have k6:=qb hf.2.1;clear hf;exact Ab
  have E:=(Fr.refl [] w3).drew;have h4:=Ob.up h3 E;have A4:=A3.kept E;have D4:=D3.then E;have H4:=Cm.up w3 _ ⟨c93,m63,Fr.refl [b] w3⟩ E;clear h3 A3 D3 c93 m63 E;generalize w3.drew=w4 at *;refine ju 17 Lm rfl rfl (fun w5 F5=>?_);have h5:=Ob.up h4 F5;have A5:=A4.kept F5;have D5:=D4.then F5;have H5:=Cm.up _ _ H4 F5;clear h4 A4 D4 H4 F5;go_wp2_with fail;refine ql ⟨H5,?_⟩;refine ju 18 Lm rfl rfl (fun w6 F6=>?_);have h6:=Ob.up h5 F6;have A6:=A5.kept F6;have D6:=D5.then F6;have H6:=Cm.up _ _ H5 F6;clear h5 A5 D5 H5 F6;go_wp2_with fail;refine ql ⟨H6,?_⟩;refine ju 19 Lm rfl rfl (fun w7 F7=>?_);have h7z:=Ob.up h6 F7;have A7z:=A6.kept F7;have D7z:=D6.then F7;have H7z:=Cm.up _ _ H6 F7;have z:=h7z.frozen;obtain ⟨c0,c1,c2,c3,c4,c5,c6,c7,c8,c9,c10,c11,c12,c13⟩:=zn h7z;clear h6 A6 D6 H6 F7;go_wp2_with fail;have h8:Vl _ b { x with placed:=false,e:=y1.e } (.slice ad y1.draws.length cd) wp xp (some mb):=Ob.set h7z (i:=12) (.int .i64 y1.e);have SF:Fr [b] w7 (w7.setCell ⟨b,12,none⟩ (.int .i64 y1.e)):=Fr.setCell _ Ll;have A8:=Rar.set A7z nbp nbq (i:=12) (.int .i64 y1.e);have D8:=D7z.trans (SF.mono (T:=b :: p :: q :: Bm) Ll);have H8:Cm w3 b mb y1.e (w7.setCell ⟨b,12,none⟩ (.int .i64 y1.e)):=⟨h8.cell rfl,SF.cell H7z.2.1 Oy,H7z.2.2.trans SF⟩;clear c0 c1 c2 c3 c4 c5 c6 c7 c8 c9 c10 c11 c12 c13 z h7z A7z D7z H7z SF;generalize (w7.setCell ⟨b,12,none⟩ (.int .i64 y1.e))=w8 at *;refine ql ⟨H8,?_⟩;refine ju 20 Lm rfl rfl (fun w9 F9=>?_);have h9:=Ob.up h8 F9;have A9:=A8.kept F9;have D9:=D8.then F9;have H9:=Cm.up _ _ H8 F9;clear h8 A8 D8 H8 F9;go_wp2_with fail;refine ql ⟨H9,?_⟩;refine ju 21 Lm rfl rfl (fun w10 F10=>?_);have h10:=Ob.up h9 F10;have A10:=A9.kept F10;have D10:=D9.then F10;have H10:=Cm.up _ _ H9 F10;clear h9 A9 D9 H9 F10;go_wp2_with fail;refine ql ⟨H10,?_⟩;generalize hob:(y1.e != 0)=ob at *;have HOB:=q9 (show decide (y1.e≠0)=ob by rw [<- hob];by_cases h0:y1.e=0 <;> simp [h0]);clear hob;refine ju 22 Lm rfl rfl (fun w11 F11=>?_);have h11z:=Ob.up h10 F11;have A11z:=A10.kept F11;have D11z:=D10.then F11;have H11z:=Cm.up _ _ H10 F11;have z:=h11z.frozen;obtain ⟨c0,c1,c2,c3,c4,c5,c6,c7,c8,c9,c10,c11,c12,c13⟩:=zn h11z;clear h10 A10 D10 H10 F11;go_wp2_with fail;have h12:Vl _ b { x with placed:=false,e:=y1.e,over:=ob } (.slice ad y1.draws.length cd) wp xp (some mb):=Ob.set h11z (i:=10) (.bool ob);have SF:Fr [b] w11 (w11.setCell ⟨b,10,none⟩ (.bool ob)):=Fr.setCell _ Ll;have A12:=Rar.set A11z nbp nbq (i:=10) (.bool ob);have D12:=D11z.trans (SF.mono (T:=b :: p :: q :: Bm) Ll);have H12:Cm w3 b mb y1.e (w11.setCell ⟨b,10,none⟩ (.bool ob)):=⟨h12.cell rfl,SF.cell H11z.2.1 Oy,H11z.2.2.trans SF⟩;clear c0 c1 c2 c3 c4 c5 c6 c7 c8 c9 c10 c11 c12 c13 z h11z A11z D11z H11z SF;generalize (w11.setCell ⟨b,10,none⟩ (.bool ob))=w12 at *;refine ql ⟨H12,?_⟩;refine q5u (k:=23) rfl Lm (fun w13 F13=>?_);have h13:=Ob.up h12 F13;have A13:=A12.kept F13;have D13:=D12.then F13;have HMS:=q9 (HM3.out.2.kept (H12.2.2.then F13) (fun k hk hi=>by simp at hi;subst hi;exact nbd hk));clear h12 A12 D12 H12 F13;rw [<- HOB.out] at h13;go_wp2_with fail;refine qp Lm ?_;refine wm 1 rfl Lm Lm Lm rfl (fun _ _ d _ _ h=>by cases d <;> exact h) ?_;go_frame;refine wm 2 rfl Lm Lm Lm rfl (fun _ _ d _ _ h=>by cases d <;> exact h) ?_;go_frame;refine za [] w13 #[true,true,true,true,true,true,true,true,true,true,true,true,false,false,false,false,false,false,false,false,false] 10 9 rfl ?_;refine ja [true,false,false,true,true,true,true,true,true,true,true,false,false,false,false,false,false,false,false,false,false] 1 (n:=184) (listed':=#[true,true,true,true,true,true,true,true,true,true,true,false,false,false,false,false,false,false,false,false,false]) rfl Lm Lm Lm Lm rfl Lm (fun _ _ d _ _ h=>by cases d <;> exact h) ((Fr.refl _ _).drew) ?_;apply qg;refine ⟨fun wf Ff=>?_,?_⟩
  ·obtain ⟨c0,c1,c2,c3,c4,c5,c6,c7,c8,c9,c10,c11,c12,c13⟩:=zn (Ob.up h13 Ff);have j0:=qb c0;have j1:=qb c1;have j2:=qb c2;have j3:=qb c3;have j4:=qb c4;clear c0 c1 c2 c3 c4 c5 c6 c7 c8 c9 c10 c11 c12 c13;exact Ab
  refine loq 11 (fun w14 F14=>?_);have E:=((Fr.refl [] w13).drew.trans F14);clear F14;go_wp2_with fail;refine (Zu x.c x.key w14).mono ?_;rintro e w15 ⟨wb,rfl,hwb,W15,F15⟩;have hE:=E.size;replace E:=E.trans F15;clear F15;go_wp2_with fail;refine ql ⟨E,?_⟩;refine qy (k:=12) rfl Lm (fun w16 F16=>?_);replace E:=E.trans F16;have W16:=Ob.up W15 F16;have h16:=Ob.up h13 E;have A16:=A13.kept E;have D16:=D13.then E;have HS16:=q9 (HMS.out.up E);have HWB:=q9 (qh D13.size (qh hE hwb));have nbw:¬ b=wb:=by have:=Ob.lt h13;omega
  clear h13 A13 D13 E F16 W15 hwb hE;obtain ⟨c0,c1,c2,c3,c4,c5,c6,c7,c8,c9,c10,c11,c12,c13⟩:=zn h16;have z:=h16.frozen;have HW16:=q9 W16;clear W16;go_wp2_with fail;go_ret;have SF:Fr [b] w16 (((w16.setCell ⟨b,9,none⟩ (.pointer none)).setCell ⟨b,8,none⟩ (.pointer none)).setCell ⟨b,7,none⟩ (.pointer (some ⟨wb,0,none⟩))):=((Fr.setCell _ Ll).setCell' _ Ll).setCell' _ Ll;exact ⟨.inr ⟨HF0.out,Eq.trans (b:=.returned (.bool (!decide (y1.e=0)))) rfl Ll,_,wb,Ob.set (Ob.set (Ob.set h16 _) (i:=8) (.pointer none)) (i:=7) (.pointer (some ⟨wb,0,none⟩)),HS16.out.kept SF (fun k hk hi=>by simp at hi;subst hi;exact nbd hk),HM.out.2.2,HWB.out,HW16.out.kept SF (by simp;exact Ne.symm nbw)⟩,Rar.set (Rar.set (Rar.set A16 nbp nbq _) nbp nbq (i:=8) (.pointer none)) nbp nbq (i:=7) (.pointer (some ⟨wb,0,none⟩)),D16.trans (SF.mono)⟩
 ·have g0:decide (y1.f=[])=false:=by simpa using hf0
  rw [g0];have HF0:=q9 hf0;clear hf0 g0;go_wp2_with fail;go_ret;have SF:Fr [b] w2 (w2.setCell ⟨b,6,none⟩ (.slice ad y1.draws.length cd)):=Fr.setCell _ Ll;exact ⟨.inl ⟨HF0.out,Eq.trans (b:=.returned (.bool x.over)) rfl O9,_,B',Ob.set h2 _,HM.out.2.1.kept SF (fun k hk hi=>by simp at hi;subst hi;exact nbd hk),HM.out.2.2,HM.out.1.kept SF (fun k hk hi=>by simp at hi;subst hi;exact nB' hk) (fun k hk hi=>by simp at hi;subst hi;exact nR.1 hk),HB2.out⟩,Rar.set A2 nbp nbq _,D2.trans (SF.mono)⟩
theorem q5k (x:Cl) (s:St):(x.step s).1.c=x.c:=by
 unfold Cl.step;split
 ·unfold Cl.next;simp only [apply_ite Cl.c,ite_self]
 ·rfl
def qb8 (w:World) (R B:List Nat) (x:Pt) (wp xp mp:Option Nat):Prop :=
 (∃ mm mb,x.m=some mm/\mp=some mb/\Ru w R B mb mm/\mb∈B) \/
 (x.m=none/\mp=none/\∃ cl xb,x.x=some cl/\xp=some xb/\X7 w xb cl/\B=[xb]) \/
 (x.m=none/\mp=none/\x.x=none/\xp=none/\∃ wb,wp=some wb/\Zb w wb x.w/\B=[wb])
def q8i (w:World) (R B:List Nat) (b:Nat) (x:Pt):Prop:=∃ dv wp xp mp Bx,Vl w b x dv wp xp mp/\Sq fI w dv x.draws/\(∀ k,k∈dv.ownBlock.toList->k∈R)/\qb8 w R Bx x wp xp mp/\b∉Bx/\(∀ k,k∈R->k<w.heap.size/\k≠b/\k∉Bx)/\B=b :: Bx
theorem Ru.self {w:World} {R B:List Nat} {b:Nat} {m:Md} (h:Ru w R B b m):b∈B:=by obtain ⟨dv,fv,fr,h,rfl⟩:=h;exact ym.2 (.inl rfl)
theorem qb8.lt {w:World} {R B:List Nat} {x:Pt} {wp xp mp:Option Nat} (h:qb8 w R B x wp xp mp):∀ k,k∈B->k<w.heap.size:=by
 rcases h with ⟨mm,mb,-,-,h,-⟩ | ⟨-,-,cl,xb,-,-,h,rfl⟩ | ⟨-,-,-,-,wb,-,h,rfl⟩
 ·exact h.lt
 ·exact Gf
 ·exact Gf
theorem q8i.lt {w:World} {R B:List Nat} {b:Nat} {x:Pt} (h:q8i w R B b x):∀ k,k∈B->k<w.heap.size:=by
 obtain ⟨dv,wp,xp,mp,Bx,h1,-,-,h4,-,-,rfl⟩:=h;intro k hk;rcases List.mem_cons.1 hk with rfl | hk
 ·exact Ob.lt h1
 ·exact h4.lt k hk
theorem q8i.kept {S:List Nat} {w w':World} {R B:List Nat} {b:Nat} {x:Pt} (h:q8i w R B b x) (F:Fr S w w') (hS:∀ k,k∈B->k∉S) (hR:∀ k,k∈R->k∉S):q8i w' R B b x:=by
 obtain ⟨dv,wp,xp,mp,Bx,h1,h2,h3,h4,h5,h6,rfl⟩:=h;refine ⟨dv,wp,xp,mp,Bx,Ob.kept h1 F (hS b Ll),h2.kept F (fun k hk=>hR k (h3 k hk)),h3,?_,h5,fun k hk=>⟨qj (h6 k hk).1 F.size,(h6 k hk).2⟩,rfl⟩;rcases h4 with ⟨mm,mb,e1,e2,h,hm⟩ | ⟨e1,e2,cl,xb,e3,e4,h,rfl⟩ | ⟨e1,e2,e3,e4,wb,e5,h,rfl⟩
 ·exact .inl ⟨mm,mb,e1,e2,h.kept F (fun k hk=>hS k (List.mem_cons_of_mem _ hk)) hR,hm⟩
 ·exact .inr (.inl ⟨e1,e2,cl,xb,e3,e4,Ob.kept h F (hS xb Ll),rfl⟩)
 ·exact .inr (.inr ⟨e1,e2,e3,e4,wb,e5,Ob.kept h F (hS wb Ll),rfl⟩)
structure Vi (N:Nat) (x:Pt):Prop where
 oc:x.c.Ok
 ok:0<=x.key/\x.key<=63
 ow:x.w.c=x.c/\x.w.key=x.key
 ox:∀ cl,x.x=some cl->cl.c=x.c
 om:∀ mm,x.m=some mm->Xg N mm/\mm.f≠[]
theorem Vi.more {N:Nat} {x:Pt} (h:Vi N x):Vi (N+1) x:=⟨h.oc,h.ok,h.ow,h.ox,fun mm e=>⟨⟨(h.om mm e).1.c,(h.om mm e).1.f,Nat.le_succ_of_le (h.om mm e).1.len⟩,(h.om mm e).2⟩⟩
theorem Vi.new {c:Cf} (hc:c.Ok) {key:Int} (hk:0<=key/\key<=63) (data:Int) (ds:List Int):Vi 1 (Pt.new c key data ds):=⟨hc,hk,⟨rfl,rfl⟩,fun cl h=>Ox,fun mm h=>Ox⟩
theorem Vi.step {N:Nat} {x:Pt} (hN:1<=N) (h:Vi N x) (s:St):Vi (N+1) (x.step s).1:=by
 have hm:=h.more;unfold Pt.step;split
 ·exact hm
 ·cases em:x.m with
  | some m =>
   simp only;obtain ⟨q1,q2⟩:=h.om m em;by_cases e0:(m.step s).1.f=[]
   ·rw [qf e0];exact ⟨h.oc,h.ok,⟨rfl,rfl⟩,fun cl e=>Ma,fun mm e=>Ma⟩
   ·rw [qd e0];exact ⟨h.oc,h.ok,h.ow,h.ox,fun mm e=>by simp only [Option.some.injEq] at e;rw [<- e];exact ⟨q1.step s,e0⟩⟩
  | none =>
   simp only;cases ex:x.x with
   | some cl =>
    simp only;have hcl:∀ c2,some (cl.step s).1=some c2->c2.c=x.c:=fun c2 e=>by simp only [Option.some.injEq] at e;rw [<- e];exact (q5k cl s).trans (h.ox cl ex)
    split
    ·split
     ·exact Ei
     ·refine ⟨h.oc,h.ok,h.ow,hcl,fun mm e=>?_⟩;simp only [Option.some.injEq] at e;have h1:=Xg.new h.oc (cl.step s).1.chunk x.draws;rw [<- e];exact ⟨⟨h1.c,h1.f,qh h1.len Lj⟩,by simp [Md.new]⟩
    ·exact Ei
   | none =>
    have hw:=Kc x.w s;simp only;split
    ·exact ⟨h.oc,h.ok,⟨hw.1.trans h.ow.1,hw.2.trans h.ow.2⟩,fun c2 e=>by simp only [Option.some.injEq] at e;rw [<- e];rfl,fun mm e=>by first | cases e | (simp only at e;rw [em] at e;cases e) | (rw [em] at e;cases e)⟩
    ·exact ⟨h.oc,h.ok,⟨hw.1.trans h.ow.1,hw.2.trans h.ow.2⟩,fun c2 e=>by first | cases e | (simp only at e;rw [ex] at e;cases e) | (rw [ex] at e;cases e),fun mm e=>by first | cases e | (simp only at e;rw [em] at e;cases e) | (rw [em] at e;cases e)⟩
theorem q9v (x:Pt) (ho:x.over=true) (b p:Nat) (dv:Value) (wp xp mp:Option Nat) (w:World) (h:Vl w b x dv wp xp mp) :
  Calls Tryz.prog 144 #[.pointer (some ⟨b,0,none⟩),.pointer (some ⟨p,0,none⟩)] w fun e w'=>e = .returned (.bool true)/\w'=w:=by
 have c10:w.cell? ⟨b,10,none⟩=some (.bool x.over):=h.cell rfl;rw [ho] at c10;go_enter Tryz.func144,Tryz.ntmps144;exact En
theorem q9a (N:Nat) (hN:N<=90000) (x:Pt) (hx:Vi N x) (R B:List Nat) (b p q:Nat) (s:St) (w:World) (h:q8i w R B b x) (hA:Rar w p q s) (hp:p∉B) (hq:q∉B) (hpR:p∉R) (hqR:q∉R) :
  Calls Tryz.prog 144 #[.pointer (some ⟨b,0,none⟩),.pointer (some ⟨p,0,none⟩)] w (Stp w (fun w' B'=>q8i w' R B' b (x.step s).1) B p q (x.step s).2 (x.step s).1.over):=by
 obtain ⟨dv,wp,xp,mp,Bx,h1,h2,h3,h4,h5,h6,rfl⟩:=h;have hlt:=h4.lt;have hbl:=Ob.lt h1;simp only [List.mem_cons,not_or] at hp hq;have nbp:¬ b=p:=fun e=>hp.1 e.symm
 have nbq:¬ b=q:=fun e=>hq.1 e.symm
 have nbR:b∉R:=fun e=>(h6 b e).2.1 rfl
 cases ho:x.over with
 | true =>
  have e1:x.step s=(x,s):=by unfold Pt.step;rw [qf ho]
  rw [e1];refine (q9v x ho b p dv wp xp mp w h1).mono ?_;rintro e w' ⟨rfl,rfl⟩;exact ⟨by simp only;rw [ho],⟨_,⟨dv,wp,xp,mp,Bx,h1,h2,h3,h4,h5,h6,rfl⟩,fun k hk=>.inl hk⟩,hA,Fr.refl _ _⟩
 | false =>
  have hov:¬ x.over=true:=by rw [ho];simp
  rcases h4 with ⟨mm,mb,em,rfl,hM,hmb⟩ | ⟨em,rfl,cl,xb,ex,rfl,hX,rfl⟩ | ⟨em,rfl,ex,rfl,wb,rfl,hW,rfl⟩
  ·obtain ⟨i1,i2⟩:=hx.om mm em
   have e1:x.step s=(if (mm.step s).1.f=[] then { x with placed:=false,draws:=(mm.step s).1.draws,e:=(mm.step s).1.e,over:=decide ((mm.step s).1.e≠0),m:=none,x:=none,w:=Wk.new x.c x.key } else { x with placed:=false,draws:=(mm.step s).1.draws,m:=some (mm.step s).1 },(mm.step s).2):=by unfold Pt.step;rw [qd hov,em]
   rw [e1];refine (put_m N hN x mm i1 i2 ho b mb p q dv wp xp R Bx s w h1 hM hA ⟨h5,hp.2,hq.2⟩ ⟨nbR,hpR,hqR⟩ nbp nbq (fun e=>h5 (by rw [e];exact hmb))).mono ?_;rintro e w' ⟨haf,hA',F⟩;have F':Fr (p :: q :: b :: Bx) w w':=F.mono Mv;rcases haf with ⟨hf0,he,dv',B',ho',hd',hr',hM',hB'⟩ | ⟨hf0,he,dv',wb,ho',hd',hr',hwb,hW'⟩
   ·rw [qd hf0];refine ⟨by rw [he];simp only;rw [ho],⟨b :: B',⟨dv',wp,xp,some mb,B',ho',hd',hr',.inl ⟨_,mb,rfl,rfl,hM',hM'.self⟩,fun hi=>?_,fun k hk=>⟨qj (h6 k hk).1 F.size,(h6 k hk).2.1,fun hi=>?_⟩,rfl⟩,fun k hk=>?_⟩,hA',F'⟩
    ·rcases hB' b hi with e | e
     ·exact h5 e
     ·omega
    ·rcases hB' k hi with e | e
     ·exact (h6 k hk).2.2 e
     ·have:=(h6 k hk).1;omega
    ·rcases List.mem_cons.1 hk with rfl | hk
     ·exact .inl Ll
     ·exact (hB' k hk).imp (fun e=>by simp [e]) id
   ·rw [qf hf0];refine ⟨he,⟨b :: [wb],⟨dv',some wb,none,none,[wb],ho',hd',hr',.inr (.inr ⟨rfl,rfl,rfl,rfl,wb,rfl,hW',rfl⟩),by simp;omega,fun k hk=>⟨qj (h6 k hk).1 F.size,(h6 k hk).2.1,by have:=(h6 k hk).1;simp;omega⟩,rfl⟩,fun k hk=>?_⟩,hA',F'⟩;simp only [List.mem_cons,List.not_mem_nil,or_false] at hk;rcases hk with rfl | rfl
    ·exact .inl Ll
    ·exact .inr hwb
  ·have e1:x.step s=(let y:=(cl.step s).1
     let p':Pt:={ x with x:=some y,placed:=decide (cl.i<0) && decide (0<=y.i) }
     if y.line=0 then (if 0<=y.version then { p' with version:=y.version,over:=true } else { p' with m:=some (Md.new x.c y.chunk x.draws) }) else p',(cl.step s).2):=by
    unfold Pt.step;rw [qd hov,em,ex]
   rw [e1];simp only [List.mem_cons,List.not_mem_nil,or_false] at hp hq h5 h6;refine (put_x x hx.oc cl (by rw [hx.ox cl ex];exact hx.oc) ho b xb p q dv wp R s w h1 hX hA h2 h3 (fun k hk=>(h6 k hk).1) ⟨nbR,fun e=>(h6 xb e).2.2 rfl,hpR,hqR⟩ h5 nbp nbq (fun e=>hp.2 e.symm) (fun e=>hq.2 e.symm)).mono ?_;rintro e w' ⟨haf,hX',hA',F⟩;have F':Fr (p :: q :: b :: [xb]) w w':=F.mono Mv
   have hd':=h2.kept F (fun k hk hi=>by
    have hkR:=h3 k hk
    simp only [List.mem_cons,List.not_mem_nil,or_false] at hi
    rcases hi with rfl | rfl | rfl | rfl
    ·exact nbR hkR
    ·exact (h6 _ hkR).2.2 rfl
    ·exact hpR hkR
    ·exact hqR hkR)
   have h6':∀ k,k∈R->k<w'.heap.size/\k≠b/\k∉[xb]:=fun k hk=>⟨qj (h6 k hk).1 F.size,(h6 k hk).2.1,by simpa using (h6 k hk).2.2⟩
   rcases haf with ⟨hl0,he,ho'⟩ | ⟨hl0,hv0,he,ho'⟩ | ⟨hl0,hv0,he,mb,B',ho',hM',hB'⟩
   ·simp only;rw [qd hl0];exact ⟨by rw [he];simp only;rw [ho],⟨b :: [xb],⟨dv,wp,some xb,none,[xb],ho',hd',h3,.inr (.inl ⟨em,rfl,_,xb,rfl,rfl,hX',rfl⟩),by simpa using h5,h6',rfl⟩,fun k hk=>.inl hk⟩,hA',F'⟩
   ·simp only;rw [qf hl0,qf hv0];exact ⟨he,⟨b :: [xb],⟨dv,wp,some xb,none,[xb],ho',hd',h3,.inr (.inl ⟨em,rfl,_,xb,rfl,rfl,hX',rfl⟩),by simpa using h5,h6',rfl⟩,fun k hk=>.inl hk⟩,hA',F'⟩
   ·simp only;rw [qf hl0,qd Lj];refine ⟨by rw [he];simp only;rw [ho],⟨b :: B',⟨dv,wp,some xb,some mb,B',ho',hd',h3,.inl ⟨_,mb,rfl,rfl,hM',hM'.self⟩,fun hi=>?_,fun k hk=>⟨(h6' k hk).1,(h6' k hk).2.1,fun hi=>?_⟩,rfl⟩,fun k hk=>?_⟩,hA',F'⟩
    ·have:=hB' b hi;omega
    ·have:=hB' k hi;have:=(h6 k hk).1;omega
    ·rcases List.mem_cons.1 hk with rfl | hk
     ·exact .inl Ll
     ·exact .inr (hB' k hk)
  ·have e1:x.step s=(if (x.w.step s).1.line=0 then { x with placed:=false,w:=(x.w.step s).1,x:=some (Cl.new x.c (x.w.step s).1.at_ x.key x.data) } else { x with placed:=false,w:=(x.w.step s).1 },(x.w.step s).2):=by unfold Pt.step;rw [qd hov,em,ex]
   rw [e1];simp only [List.mem_cons,List.not_mem_nil,or_false] at hp hq h5 h6;refine (put_w x hx.oc hx.ow hx.ok ho b wb p q dv s w h1 hW hA h5 nbp nbq (fun e=>hp.2 e.symm) (fun e=>hq.2 e.symm)).mono ?_;rintro e w' ⟨he,hW',hA',haf,F⟩;have F':Fr (p :: q :: b :: [wb]) w w':=F.mono Mv
   have hd':=h2.kept F (fun k hk hi=>by
    have hkR:=h3 k hk
    simp only [List.mem_cons,List.not_mem_nil,or_false] at hi
    rcases hi with rfl | rfl | rfl | rfl
    ·exact nbR hkR
    ·exact (h6 _ hkR).2.2 rfl
    ·exact hpR hkR
    ·exact hqR hkR)
   rcases haf with ⟨hl0,xb,hxb,ho',hX'⟩ | ⟨hl0,ho'⟩
   ·rw [qf hl0];refine ⟨by rw [he];simp only;rw [ho],⟨b :: [xb],⟨dv,some wb,some xb,none,[xb],ho',hd',h3,.inr (.inl ⟨em,rfl,_,xb,rfl,rfl,hX',rfl⟩),by simp;omega,fun k hk=>⟨qj (h6 k hk).1 F.size,(h6 k hk).2.1,by have:=(h6 k hk).1;simp;omega⟩,rfl⟩,fun k hk=>?_⟩,hA',F'⟩;simp only [List.mem_cons,List.not_mem_nil,or_false] at hk;rcases hk with rfl | rfl
    ·exact .inl Ll
    ·exact .inr hxb
   ·rw [qd hl0];exact ⟨by rw [he];simp only;rw [ho],⟨b :: [wb],⟨dv,some wb,none,none,[wb],ho',hd',h3,.inr (.inr ⟨em,rfl,ex,rfl,wb,rfl,hW',rfl⟩),by simpa using h5,fun k hk=>⟨qj (h6 k hk).1 F.size,(h6 k hk).2.1,by simpa using (h6 k hk).2.2⟩,rfl⟩,fun k hk=>.inl hk⟩,hA',F'⟩
theorem Ww (c:Cf) (key data:Int) (ds:List Int) (dv:Value) (R:List Nat) (w:World) (hD:Sq fI w dv ds) (hdR:∀ k,k∈dv.ownBlock.toList->k∈R) (hR:∀ k,k∈R->k<w.heap.size) :
  Calls Tryz.prog 139 #[c.val,.int .i64 key,.int .i64 data,dv] w fun e w'=>∃ b B,e = .returned (.pointer (some ⟨b,0,none⟩))/\q8i w' R B b (Pt.new c key data ds)/\(∀ k,k∈B->w.heap.size<=k)/\Fr [] w w':=by
 obtain ⟨av,cv,rfl,hcv,hmv,-⟩:=id hD;unfold Cf.val;have F0:=(Fr.refl [] w).alloc (.cells #[.int .i64 c.t,.int .i64 c.c,.int .i64 c.wd,.int .i64 c.v] 23);have o0:=Ob.new w 23 #[.int .i64 c.t,.int .i64 c.c,.int .i64 c.wd,.int .i64 c.v];go_enter Tryz.func139,Tryz.ntmps139;go_wp2_with fail;generalize (w.alloc (.cells #[.int .i64 c.t,.int .i64 c.c,.int .i64 c.wd,.int .i64 c.v] 23))=w1 at *;generalize w.heap.size=q at o0 ⊢;refine z7 Lm [] (fun w2 F2=>?_);refine epq [true,true,true,true,true,true,false,false,false,false] 4 F2 ?_;apply qg;refine ⟨fun wf Ff=>?_,?_⟩
 ·obtain ⟨c0,c1,c2,c3⟩:=Pl.yp (Ob.up o0 Ff);have k0:=qb c0;have k1:=qb c1;have k2:=qb c2;have k3:=qb c3;clear c0 c1 c2 c3;exact Ab
 refine eoq 6 (fun w3 F3=>?_);have E:=F2.trans F3;clear F2 F3 o0;go_wp2_with fail;refine (Zu c key w3).mono ?_;rintro e w4 ⟨wb,rfl,hwb,W4,F4⟩;have HE:=q9 (qh F0.size (qh E.size hwb));replace E:=E.trans F4;clear F4 hwb;go_wp2_with fail;refine ql ⟨E,?_⟩;refine eoq 7 (fun w5 F5=>?_);replace E:=E.trans F5;replace W4:=Ob.up W4 F5;clear F5;go_wp2_with fail;refine ql ⟨E,?_⟩;refine eoq 8 (fun w6 F6=>?_);replace E:=E.trans F6;replace W4:=Ob.up W4 F6;clear F6;go_wp2_with fail;have FA:=(Fr.refl [] w6).alloc (.cells (PtC (Pt.new c key data ds) (.slice av ds.length cv) (some wb) none none) 204);have oP:Vl _ w6.heap.size (Pt.new c key data ds) (.slice av ds.length cv) (some wb) none none:=Ob.new w6 204 _;have W7:=Ob.up W4 FA;have HP:=q9 (qc (qh F0.size E.size) (Ob.lt W4));refine ql ⟨E.trans FA,?_⟩;refine eoq 9 (fun w8 F8=>?_);have E2:=(E.trans FA).trans F8;have o8:=Ob.up oP F8;have W8:=Ob.up W7 F8;clear E FA F8 oP W7 W4;generalize w6.heap.size=b at *;go_wp2_with fail;refine ql ⟨E2,?_⟩;refine zq Lm (fun w9 F9=>?_);have E3:=q9 (F0.trans (E2.trans F9));have HO:=q9 (qc (Ob.up o8 F9) (Ob.up W8 F9));clear o8 W8 E2 F9 F0;go_wp2_with fail;go_ret;have h1:=HE.out;have h2:=HP.out;refine ⟨b,b :: [wb],rfl,⟨_,some wb,none,none,[wb],HO.out.1,hD.up E3.out,hdR,.inr (.inr ⟨rfl,rfl,rfl,rfl,wb,rfl,HO.out.2,rfl⟩),by simp;omega,fun k hk=>⟨qj (hR k hk) E3.out.size,by have:=hR k hk;omega,by have:=hR k hk;simp;omega⟩,rfl⟩,fun k hk=>?_,E3.out⟩;simp only [List.mem_cons,List.not_mem_nil,or_false] at hk;exact I4
end Go.Proofs.YthokjbikomjhgaaGreatDoor.Mx
