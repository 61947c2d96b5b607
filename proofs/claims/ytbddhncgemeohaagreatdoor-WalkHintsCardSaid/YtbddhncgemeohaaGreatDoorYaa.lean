/- Parts. -/
import Derived.BigQuiet
import Derived.Deep.QuietTactic
import Derived.DeepKeys4
import Derived.Handy
import Derived.Lib.Hide
import Derived.Maps.OwnOps
import Derived.Maps.RangeWalk
import Derived.Maps.Views
import Derived.Test.YtbddhncgemeohaaGreatDoorRows
import Derived.WalkKit
import Derived.WalkLawsBesides
import Derived.WideKeyPair
namespace Go.Proofs.YtbddhncgemeohaaGreatDoor
theorem Nb {p:Prop} (h:p:=by unfold Func.isWrapper;first | (rw [qg (by decide +kernel)];kernel_rfl) | (rw [qf (by decide +kernel)];exact ⟨rfl,rfl⟩)):p:=h
theorem Nq {p:Prop} (h:p:=by rintro e w' ⟨rfl,F⟩;exact ⟨rfl,⟨x.lv,Ob.up h F,hs.up F,.inl rfl⟩,hA.kept F,F.mono⟩):p:=h
theorem Nc {p:Prop} (h:p:=by first | cases e | (simp only at e;rw [em] at e;cases e) | (rw [em] at e;cases e)):p:=h
theorem Ni {p:Prop} (h:p:=by intro k hk;simp at hk ⊢;rcases hk with h | h | h | h <;> simp [h]):p:=h
theorem O1 {p:Prop} (h:p:=by intro k hk;simp at hk ⊢;rcases hk with rfl | rfl | rfl <;> simp):p:=h
theorem Nr {p:Prop} (h:p:=by simp only [List.mem_cons,List.mem_append];exact .inr (.inr hk)):p:=h
theorem O4 {p:Prop} (h:p:=by simp only [List.mem_cons,List.mem_append];exact .inr (.inr hi)):p:=h
theorem O5 {p:Prop} (h:p:=by simp only [List.mem_cons,List.mem_append];exact .inr (.inl hi)):p:=h
theorem Np {p:Prop} (h:p:=by intro k hk;simp at hk ⊢;rcases hk with h | h | h <;> simp [h]):p:=h
theorem Nu {p:Prop} (h:p:=by intro k hk;simp at hk;rcases hk with rfl | rfl | rfl <;> simp):p:=h
theorem Nv {p:Prop} (h:p:=by simp [results,Tryz.results72,go_sem,q0,q1,q2,q3,q4,q5,Yo,Y3]):p:=h
theorem Nf {p:Prop} (h:p:=by have:=(List.getElem?_eq_some_iff.1 HX.out.2.1).1;exact this):p:=h
theorem O8 {p:Prop} (h:p:=by unfold vz;have:=HTL.out.1;have:=HTL.out.2.1;split <;> omega):p:=h
theorem Mt {p:Prop} (h:p:=by rintro e w' ⟨rfl,F⟩;exact ⟨rfl,Ob.up h F,hA.kept F,F.mono⟩):p:=h
theorem Ng {p:Prop} (h:p:=by simp [results,Tryz.results88,go_sem,q0,q1,q2,q3,q4,q5,Yo]):p:=h
theorem Oj {p:Prop} (h:p:=by simp only [Option.some.injEq] at e;rw [<- e];exact kS):p:=h
theorem Mv {p:Prop} (h:p:=by intro k hk;simp at hk;subst hk;exact .inr (by omega)):p:=h
theorem Ol {p:Prop} (h:p:=by simp only [Option.some.injEq] at e;rw [<- e];exact k):p:=h
theorem N9 {p:Prop} (h:p:=by cases m with | nil=>rfl | cons b m=>cases b <;> rfl):p:=h
theorem Nz {p:Prop} (h:p:=by simp only [List.mem_cons,List.mem_append];simp [hg]):p:=h
theorem Oz {p:Prop} (h:p:=by simp at hi;subst hi;simp [Value.ownBlock]):p:=h
theorem P6 {p:Prop} (h:p:=by intro b hb;simp at hb;subst hb;exact hBg):p:=h
theorem Nw {p:Prop} (h:p:=by have:=HT.out;rw [<- hT3];simp <;> omega):p:=h
theorem Ny {p:Prop} (h:p:=by rw [show own2 y.tb=4 from B1.ct];decide):p:=h
theorem O7 {p:Prop} (h:p:=by have:=hc.c2;have:=hc.t1;unfold z8;omega):p:=h
theorem P9 {p:Prop} (h:p:=by simp only [List.mem_cons];exact .inr hk):p:=h
theorem Oa {p:Prop} (h:p:=by have:=HL.out;have:=HML.out;simp;omega):p:=h
theorem Pe {p:Prop} (h:p:=by simp [results,Tryz.results104,go_sem]):p:=h
theorem Pf {p:Prop} (h:p:=by simp [results,Tryz.results73,go_sem]):p:=h
theorem Na {p:Prop} (h:p:=by have:=HT.out;rw [<- hT3];simp;omega):p:=h
theorem Nn {p:Prop} (h:p:=by simp;exact ⟨Ne.symm p1,Ne.symm q1⟩):p:=h
theorem Ot {p:Prop} (h:p:=by simp at hi;subst hi;rw [hg];simp):p:=h
theorem My {p:Prop} (h:p:=by simpa [Value.ownBlock] using hk):p:=h
theorem Ms {p:Prop} (h:p:=by have:=HT.out;simp <;> omega):p:=h
theorem Ox {p:Prop} (h:p:=by unfold zq;have:=hc.t1;omega):p:=h
theorem Oy {p:Prop} (h:p:=by unfold zq;have:=hc.t8;omega):p:=h
theorem Oo {p:Prop} (h:p:=by rw [<- e];simpa using hk):p:=h
theorem Oq {p:Prop} (h:p:=by show zq y.c=zq c;rw [e1]):p:=h
theorem P8 {p:Prop} (h:p:=by simp only at hon ⊢;omega):p:=h
theorem Mh {p:Prop} (h:p:=by have:=HT.out;simp;omega):p:=h
theorem O9 {p:Prop} (h:p:=by rw [size_put];exact hn):p:=h
theorem Pg {p:Prop} (h:p:=by simp;exact Ne.symm nfl):p:=h
theorem Ph {p:Prop} (h:p:=by simp;exact Ne.symm nfp):p:=h
theorem Pi {p:Prop} (h:p:=by simp;exact Ne.symm nfq):p:=h
theorem Pm {p:Prop} (h:p:=by simp;exact Ne.symm nbm):p:=h
theorem Mo {p:Prop} (h:p:=by simp [Value.ownBlock]):p:=h
theorem Oc {p:Prop} (h:p:=by rw [h] at hr;cases hr):p:=h
theorem Od {p:Prop} (h:p:=by simp;exact HN.out.2.1):p:=h
theorem Po {p:Prop} (h:p:=by simp;exact Ne.symm hp):p:=h
theorem Pp {p:Prop} (h:p:=by simp;exact Ne.symm hq):p:=h
theorem Pq {p:Prop} (h:p:=by simp;exact Ne.symm n1):p:=h
theorem Ps {p:Prop} (h:p:=by unfold jk at h0;omega):p:=h
theorem N7 {p:Prop} (h:p:=by simp;exact ⟨hbp,hbq⟩):p:=h
theorem O2 {p:Prop} (h:p:=by have:=HW.out.1;omega):p:=h
theorem O3 {p:Prop} (h:p:=by simp;exact ⟨hgp,hgq⟩):p:=h
theorem Pu {p:Prop} (h:p:=by rw [<- h.1];exact hi):p:=h
theorem O6 {p:Prop} (h:p:=by unfold maxLen;omega):p:=h
theorem P7 {p:Prop} (h:p:=by rw [h.thl];exact hn):p:=h
theorem Py {p:Prop} (h:p:=by rw [hS i hi];decide):p:=h
theorem Mf {p:Prop} (h:p:=by simp;exact ⟨hp,hq⟩):p:=h
theorem Mi {p:Prop} (h:p:=by simp;exact hp.symm):p:=h
theorem Mj {p:Prop} (h:p:=by simp;exact hq.symm):p:=h
theorem Nt {p:Prop} (h:p:=by have:=xk hc;omega):p:=h
theorem Ow {p:Prop} (h:p:=by rw [HO.out];simp):p:=h
theorem Pn {p:Prop} (h:p:=by simpa using nto'):p:=h
theorem A02 {p:Prop} (h:p:=by rw [h.cp];decide):p:=h
theorem A03 {p:Prop} (h:p:=by rw [h.cq];decide):p:=h
theorem A04 {p:Prop} (h:p:=by rw [eL];simp [q]):p:=h
theorem Mr {p:Prop} (h:p:=by simp only;omega):p:=h
theorem Mw {p:Prop} (h:p:=by unfold zq;omega):p:=h
theorem Nj {p:Prop} (h:p:=by simpa using hbp):p:=h
theorem P5 {p:Prop} (h:p:=by unfold z8;omega):p:=h
theorem Nh {p:Prop} (h:p:=by simpa using hk):p:=h
theorem Ns {p:Prop} (h:p:=by simpa using k1):p:=h
theorem Oe {p:Prop} (h:p:=by simpa using p1):p:=h
theorem Oh {p:Prop} (h:p:=by simpa using q1):p:=h
theorem Ou {p:Prop} (h:p:=by simpa using hr):p:=h
theorem Pd {p:Prop} (h:p:=by simp <;> omega):p:=h
theorem Pw {p:Prop} (h:p:=by simpa using h0):p:=h
theorem Px {p:Prop} (h:p:=by show 5<7;omega):p:=h
theorem Mm {p:Prop} (h:p:=by simp [maxLen]):p:=h
theorem Om {p:Prop} (h:p:=by simp [fTv,vh]):p:=h
theorem Pz {p:Prop} (h:p:=by simpa using h):p:=h
theorem O0 {p:Prop} (h:p:=by rw [he];simp):p:=h
theorem A00 {p:Prop} (h:p:=by rw [hg];simp):p:=h
theorem Ov {p:Prop} (h:p:=by rw [HO.out]):p:=h
theorem Me {p:Prop} (h:p:=by kernel_rfl):p:=h
theorem Ml {p:Prop} (h:p:=by simp;omega):p:=h
theorem N8 {p:Prop} (h:p:=by simp [fEv]):p:=h
theorem Pj {p:Prop} (h:p:=by rw [e];rfl):p:=h
theorem A05 {p:Prop} (h:p:=by assumption):p:=h
theorem Oi {p:Prop} (h:p:=by simp [hk]):p:=h
theorem Pv {p:Prop} (h:p:=by simp [hz]):p:=h
theorem A01 {p:Prop} (h:p:=by simp [hy]):p:=h
theorem Nl {p:Prop} (h:p:=by simp [h]):p:=h
theorem Mq {p:Prop} (h:p:=by cases e):p:=h
theorem Pk {p:Prop} (h:p:=by cases h):p:=h
theorem A06 {p:Prop} (h:p:=by cases k):p:=h
theorem Mg {p:Prop} (h:p:=by decide):p:=h
theorem Ly {p:Prop} (h:p:=by omega):p:=h
theorem Ma {p:Prop} (h:p:=by simp):p:=h
theorem Aa {p:Prop} (h:p:=by
  have M9:=M8.kept F9 Ma;have D9:=D8.trans F9;clear D8 F9 M8;refine x8 rfl _ _ _ rfl _ _ rfl rfl rfl M9 (Qt Ly) (xc Ly Ly) (xc Ly Ly) ?_;intro w10 M10 F10;have D10:=D9.own F10 Ml;simp only [Act.put];clear M9 D9 F10;refine qo ⟨D10,?_⟩;refine Z2 [false,false,false,false,false,false,false,false,false,false,false,false,false,true,true] 0 (n:=17) rfl Me Me Me rfl rfl (fun _ _ d _ _ h=>by cases d <;> exact h) D10 ?_;apply qh;refine ⟨fun wf Ff=>?_,?_⟩
  ·simp only [sel];exact Lv
  refine zw Me (fun w11 F11=>?_);have M11:=M10.kept F11 Ma;have D11:=HG.out.trans (D10.trans F11);have hb':=qi HG.out.size hb;clear D10 F11 M10;go_wp2;go_ret
  exact ⟨b,_,_,rfl,hb',by omega,M11,D11,fun k=>by
   simp only [show 3+t+4=7+t by omega,show 7+t+2=9+t by omega,show 2 * (7+t+7)=2 * (14+t) by omega] <;> (
   have a1:k=2->¬ k=7+t/\¬ k=9+t:=by omega
   have a2:k=7+t->¬ k=9+t:=by omega
   by_cases e1:k=2
   ·simp only [qg e1,qf (a1 e1).1,qf (a1 e1).2]
   by_cases e2:k=7+t
   ·simp only [qf e1,qg e2,qf (a2 e2)]
   by_cases e3:k=9+t
   ·simp only [qf e1,qf e2,qg e3]
   ·simp only [qf e1,qf e2,qf e3])⟩
 ):p:=h
theorem Ab {p:Prop} (h:p:=by
  go_wp2_with fail;refine qo ⟨(D3.mono).trans F4,?_⟩;refine qy (k:=20) rfl Me (fun w5 F5=>?_);have A5:=A4.kept F5;have h5:Ye w5 b T pre post y:=(h3.kept F4 N7).up F5;have D5:Fr [b,p,q] w w5:=((D3.mono).trans (F4.mono)).then F5;have HB:=qb (Qu (w:=w5) (qx s.l lk) (by have:=HY.out.1;omega) h5 HY.out.2);clear A3 A4 h3 F4 F5 D3 h5;go_wp2_with fail;refine HB.out.mono ?_;rintro e w7 ⟨rfl,h7,F7⟩;have A7:=A5.kept F7 (by simp;exact hbp.symm) (by simp;exact hbq.symm);have D7:Fr [b,p,q] w w7:=D5.trans (F7.mono);have HP:=qb (qd h7 (qd A7 D7));obtain ⟨-,e1,-⟩:=jf h7 HY.out.2;have z7:=h7.frozen;clear HB A5 D5 F7 D7 h7 A7;generalize hlb:y.behL (qx s.l lk)=lb at *;go_wp2_with fail;go_ret;obtain ⟨h7,A7,D7⟩:=HP.out;refine ⟨?_,?_,?_,?_⟩
  ·show Ending.returned (.bool (lb == 5)) = .returned (.bool (decide (y.behL (qx s.l lk)=5)));rw [hlb];congr
  ·have k:=Pb.set h7 HY.out.2 (i:=1) (by show 1<7;omega) (.int .i64 lb);rw [Xa,<- hlb] at k;rw [<- hlb];exact k
  ·exact A7.kept (Fr.setCell (S:=[b]) (b:=b) _ Ma) (by simp;exact hbp.symm) (by simp;exact hbq.symm)
  ·exact D7.setCell' (b:=b) _ Ma
 ):p:=h
theorem Ac {p:Prop} (h:p:=by
  simp only [sel];exact Lv
 ):p:=h
theorem Ad {p:Prop} (h:p:=by
  have HV5:=qb (hv1.up HFF.out);go_loopw [9,10] (qax w5 vs true (fun _=>false)) (fun _ x _=>vs.length - (intOf x).toNat);case atStart=>exact ⟨0,Nat.zero_le _,rfl,by simp,Fr.refl _ _⟩
  case round =>
   obtain ⟨k,hk,rfl,hu,F6⟩:=hrel;by_cases hkl:k<vs.length
   ·obtain ⟨z,hz⟩:∃ z,vs[k]? = some z:=⟨vs[k],List.getElem?_eq_getElem hkl⟩;have hmore:=Um (P:=(fun _=>false)) hz;have HM:=qb hmore;clear hmore;have HF6:=qb F6;have hu':=hu.trans (show _=Value.bool true by simp);subst hu';clear hu;clear F6;go_wp2_with fail;refine wiq ?_;repeat (go_big_quiet_step (fail))
    refine wpQuiet_nil ?_;intro w7 F7;go_wp2_with fail;go_roundw;case rel=>exact ⟨k+1,by omega,by go_num,by simp,HF6.out.trans F7⟩
    case measure=>simp [intOf];omega
   ·obtain rfl:k=vs.length:=by omega
    rw [List.take_length] at hu;have hu':=hu.trans (show _=Value.bool true by simp);subst hu';clear hu;have x0:=F6.cell x0 Ma;have x1:=F6.cell x1 Ma;have x2:=F6.cell x2 Ma;have HFG:=qb (HFF.out.trans F6);have r6:=qp r5.out F6;have F12:=(Fr.refl [] wr).alloc (.cells #[.int .i64 x.k,.int .i64 x.v,.int .i64 x.d] 144);have B12:=Go.heap_alloc_new wr (.cells #[.int .i64 x.k,.int .i64 x.v,.int .i64 x.d] 144);have r12:=qp r6 F12;have HG:=qb (HFG.out.trans F12);clear r6 F12 F6;go_wp2_with (at_builtin;refine qw zk rfl _ _ 125 rfl Tryz.underlying125 itI rfl (B:=w1.heap.size) _ out rfl r12 _ [x] rfl (Sq.block B12 rfl rfl (Nat.le_refl _) Mm) Ml Mg HG.out.size ?_;intro a21 c21 w21 r21 f21);have HR:=qb (show w21.ownsRow w1.heap.size 144 3 (.slice a21 (out.length+1) c21) (out++[x]).length ((out++[x]).flatMap fT) by rw [show (Value.slice a21 (out++[x]).length c21)=Value.slice a21 (out.length+1) c21 by simp] at r21;exact r21);have HG2:=qb (HG.out.own f21 (zh r12));clear r21 f21 r12 B12;go_wp2_with fail;go_roundw;case rel=>exact ⟨i+1,out++[x],by omega,by go_num,by simp;omega,HR.out,HG2.out,by rw [<- HK.out,HKB.out];simp⟩
    case measure=>simp [intOf];omega
 ):p:=h
theorem Ae {p:Prop} (h:p:=by
  unfold Go.wpOp at *;simp only [hj] at *;rw [wanted_put oj a oi.dst v h1] at h;by_cases hw:Region.wanted oj (yielded ops a.tmps)=true
  ·rw [qg hw] at h ⊢;refine h.imp (fun h=>?_) (fun ⟨hasks,hlets⟩=>⟨by unfold Oper.asks at *;rw [execOp_put oj hsj a oi.dst v h1] at hasks;exact hasks,hlets⟩);unfold Oper.wp at *;rw [execOp_put oj hsj a oi.dst v h1] at h;generalize (execOp a.eval oj).run P w=r at *;cases r with
   | ok n w' =>
    cases n <;> simp only [Oper.upon] at h ⊢;case value u=>exact ⟨keep a hy u,by rw [<- Act.put_comm a v u h2];exact h⟩
    case skip=>exact ⟨keep a hy _,by rw [<- Act.put_comm a v undef h2];exact h⟩
    case defer d=>exact ⟨keep _ (keepD d) _,by rw [<- Act.put_comm _ v undef h2,<- Act.put_defers];exact h⟩
    case enter f args =>
     refine Calls.mono h fun e w'' he=>?_
     cases e with
     | returned u=>exact ⟨keep a hy u,by rw [<- Act.put_comm a v u h2];exact he⟩
     | panicked c=>exact hQ _ _ _ _ _ he
     | outgrown=>exact he
    case row row args=>exact Rows.mono h fun u w'' he=>⟨keep a hy u,by rw [<- Act.put_comm a v u h2];exact he⟩
   | halt x w' =>
    cases x <;> simp only [Oper.upon] at h ⊢;case panic u=>exact hQ _ _ _ _ _ h
  ·rw [qf hw] at h ⊢;exact ⟨keep a hy _,by rw [<- Act.put_comm a v undef h2];exact h⟩
 ):p:=h
theorem Af {p:Prop} (h:p:=by
  subst hn;go_wp2_with fail;exact Lm
 ):p:=h
theorem Ag {p:Prop} (h:p:=by
  go_enter Tryz.func97,Tryz.ntmps97;go_wp2_with fail;have h0:=h;have A0:=hA;have D0:=Fr.refl [b,p,q] w;clear h hA;have hw0:=qb (Eq.refl w);have A1:=A0;have h1:=h0;have D1:=D0;clear c0 c1 c2 c3 c4 c5 c6 c7 c8 c9 c10 c11 c12 c13 z;refine (Ref.yz _ p q s _ 0 _ A1).mono ?_;rintro e w5 ⟨rfl,A5,F5⟩;have h5:=Ob.kept h1 F5 Mf;have D5:=zo D1 F5 Ma;clear A1 h1 D1 F5 A0 h0 D0;obtain ⟨c0,c1,c2,c3,c4,c5,c6,c7,c8,c9,c10,c11,c12,c13⟩:=zi h5;have z:=h5.frozen;rw [<- HW.out] at A5;have hn:y = { x with drew:=true,line:=7 }:=by rw [<- HY.out];unfold Ld.next;simp [hl]
  subst hn;exact Iy
 ):p:=h
theorem Ah {p:Prop} (h:p:=by
  go_wp2_with fail;exact Lm
 ):p:=h
theorem Ai {p:Prop} (h:p:=by
  exact ⟨rfl,(Ob.set h5 _),(Rar.set A5 hp hq _),(Fr.setCell' D5 _ Ma)⟩
 ):p:=h
theorem Aj {p:Prop} (h:p:=by
  have H0:=qb e0;clear h e hl e0;go_enter Tryz.func31,Tryz.ntmps31;go_wp2_with fail;go_ret;refine ⟨?_,?_,Fr.refl _ _⟩
  ·exact Iz
  ·rw [E1.out];first | exact HH.out | (rw [qg H0.out];exact HH.out) | (rw [qf H0.out];exact HH.out) | (rw [qf (Int.not_le.mpr H0.out)];exact HH.out) | (rw [qf (Int.not_lt.mpr H0.out)];exact HH.out)
 ):p:=h
theorem Ak {p:Prop} (h:p:=by
  go_wp2_with fail;have h6:vn ((w5.setCell ⟨b,11,none⟩ (.int .i64 v)).setCell ⟨b,8,none⟩ (.int .i64 3)) b { x with s:=v,line:=3 }:=(Ob.set (Ob.set h5 (i:=11) (.int .i64 v)) (i:=8) (.int .i64 3));have A6:=(Rar.set (Rar.set A5 hp hq (i:=11) (.int .i64 v)) hp hq (i:=8) (.int .i64 3));have D6:=(Fr.setCell' (Fr.setCell' D5 (b:=b) (i:=11) (.int .i64 v) Ma) (b:=b) (i:=8) (.int .i64 3) Ma);generalize ((w5.setCell ⟨b,11,none⟩ (.int .i64 v)).setCell ⟨b,8,none⟩ (.int .i64 3))=w6 at *;clear h5 A5 D5;clear c0 c1 c2 c3 c4 c5 c6 c7 c8 c9 c10 c11 c12 c13 c14 z;refine (Qv ({ x with s:=v,line:=3 }:Lok) hi b _ h6).mono ?_;rintro e w7 ⟨rfl,h7,F7⟩;have A7:=A6.kept F7 Mi Mj;have D7:=zo D6 F7 Ma;clear h6 A6 F7 D6;obtain ⟨-,-,-,-,-,-,-,-,c8,-,-,-,-,-,-⟩:=z6 h7;go_wp2_with fail;go_ret;exact ⟨rfl,⟨(Lok.on ({ x with s:=v,line:=3 }:Lok)).lv,h7,by rw [xz,jr];exact sqT hs D7 hb hp2 hq2,.inl (xz _)⟩,A7,D7⟩
 ):p:=h
theorem Am {p:Prop} (h:p:=by
  subst hn;obtain ⟨-,-,-,-,-,c5,c6,-,-,-,-,-,c12,-,-⟩:=z6 h6;have k5:=qc c5;have k6:=qc c6;have k12:=qc c12;clear c5 c6 c12;refine wiq ?_;repeat (go_big_quiet_step (fail))
  refine wpQuiet_nil ?_;intro w8 F8;replace h6:=Ob.up h6 F8;replace A6:=A6.kept F8;replace D6:=D6.then F8;clear k5 k6 k12 F8;go_wp2_with fail;refine (Qv ({ x with k:=v }:Lok) hi b _ h6).mono ?_;rintro e w7 ⟨rfl,h7,F7⟩;have A7:=A6.kept F7 Mi Mj;have D7:=zo D6 F7 Ma;clear h6 A6 F7 D6;obtain ⟨-,-,-,-,-,-,-,-,c8,-,-,-,-,-,-⟩:=z6 h7;go_wp2_with fail;go_ret;exact ⟨rfl,⟨(Lok.on ({ x with k:=v }:Lok)).lv,h7,by rw [xz,jr];exact sqT hs D7 hb hp2 hq2,.inl (xz _)⟩,A7,D7⟩
 ):p:=h
theorem Ao {p:Prop} (h:p:=by
  have HM:=qb (Jg x Ly hc b p q s w h hA hp hq);obtain ⟨-,-,-,-,-,-,-,c7,-,-,-,-,-,-⟩:=zi h;clear hA;go_enter Tryz.func97,Tryz.ntmps97;go_wp2_with fail;refine HM.out.mono ?_;rintro e w7 ⟨rfl,h7,A7,D7⟩;clear HM c7;obtain ⟨-,-,-,-,-,-,-,c7,-,-,-,-,-,-⟩:=zi h7;go_wp2_with fail;exact Lp
 ):p:=h
theorem Ap {p:Prop} (h:p:=by
  subst hn;exact Iy
 ):p:=h
theorem Aq {p:Prop} (h:p:=by
  have g1:=hall e he hb;have g0:=(mem_ready.1 hr).1;rw [heq] at g1;rcases Nat.lt_or_ge i listed.size with h' | h'
  ·simp [h'] at g0 g1;rw [g0] at g1;cases g1
  ·simp [Array.getElem?_eq_none h'] at g1
 ):p:=h
theorem Au {p:Prop} (h:p:=by
  obtain ⟨c7,c8,c9,c12⟩:=(HK.out.up Ff).mc;obtain ⟨t1,t3,t4,t5,-⟩:=(HK.out.up Ff).tc;simp only [HZ.out.1,HZ.out.2.1,HZ.out.2.2,vh] at t3 t4 t5;have k3:=qc t3;have k4:=qc t4;have k5:=qc t5;have k7:=qc c7;have k9:=qc c9;have k12:=qc c12;simp only [sel];repeat (go_big_quiet_step ((go_at_call 70;exact Calls.in_ (Vk P' HOK.out.1 HOK.out.2 _ pb _ ((HP.out.kept Ff Ma).kept (In.fr _) Ma)))))
  exact wpQuiet_nil rfl
 ):p:=h
theorem Av {p:Prop} (h:p:=by
  go_wp2;go_ret;exact ⟨rfl,(Fr.refl _ _).alloc _⟩
 ):p:=h
theorem Aw {p:Prop} (h:p:=by
  rw [hc,show s.swap i old v=s.note 3 i (qx s.l i) false by rw [St.swap,qf (by simp [hc])]];go_enter Tryz.func107,Tryz.ntmps107;go_wp2_with (first | (go_at_call 18;refine (ja _ p q _ i h).mono ?_;rintro e w' ⟨rfl,rfl⟩) | (go_at_call 40;refine (q1h _ p q _ i h).mono ?_;rintro e w' ⟨rfl,rfl⟩));refine (Z4 _ p q _ 3 i (qx s.l i) false h).mono ?_;rintro e w2 ⟨rfl,A2,F2⟩;go_wp2;go_ret;exact ⟨rfl,A2,F2.mono⟩
 ):p:=h
theorem Ay {p:Prop} (h:p:=by
  have k0:=qc (Ff.cell c0 Ma);have k1:=qc (Ff.cell c1 Ma);have k2:=qc (Ff.cell c2 Ma);have k3:=qc (Ff.cell c3 Ma);have p0:=qc (Ff.cell q0 Ma);have p1:=qc (Ff.cell q1 Ma);have p2:=qc (Ff.cell q2 Ma);have p3:=qc (Ff.cell q3 Ma);simp only [sel];repeat (go_big_quiet_step ((go_at_call 64;exact Calls.in_same (q2m _ _ _))))
  exact wpQuiet_nil rfl
 ):p:=h
theorem B0 {p:Prop} (h:p:=by
  go_enter Tryz.func47,Tryz.ntmps47;go_wp2_with fail;refine wiq ?_;repeat (go_big_quiet_step ((go_at_call 61;exact Calls.in_same ((Jm m _ b ov pv dv pa tv0 kv ev R ss _ (Ob.up HH.out.1 (In.fr _)) (HH.out.2.kept (In.fr _) Ma)).mono (fun e w' hh=>⟨hh.1,hh.2.symm⟩)))))
  exact Lh
 ):p:=h
theorem Ba {p:Prop} (h:p:=by
  have HN:=qb hn;clear hn;go_enter Tryz.func118,Tryz.ntmps118;go_wp2_with fail;have h1:yd _ b { x with line:=8 }:=Ob.set h (i:=7) (.int .i64 8);have D1:Fr [b] w (w.setCell ⟨b,7,none⟩ (.int .i64 8)):=Fr.setCell _ Ma;refine (Yq { x with line:=8 } b _ h1).mono ?_;rintro e w2 ⟨rfl,h2,F2⟩;go_wp2;go_end0;exact ⟨rfl,by rw [HN.out];exact h2,D1.trans F2⟩
 ):p:=h
theorem Bc {p:Prop} (h:p:=by
  subst hn;exact ⟨rfl,⟨wv,Ob.set (Ob.set h12 _) (i:=8) (.int .i64 0),.inl ⟨rfl,rfl⟩⟩,Rar.set (Rar.set A12 hp hq _) hp hq (i:=8) (.int .i64 0),Fr.setCell' (Fr.setCell' D12 _ Ma) (b:=b) (i:=8) (.int .i64 0) Ma⟩
 ):p:=h
theorem Be {p:Prop} (h:p:=by
  obtain ⟨-,-,-,-,-,-,-,c7,-,-,-,-,-,-⟩:=zi h7;go_wp2_with fail;exact Lp
 ):p:=h
theorem Bh {p:Prop} (h:p:=by
  go_wp2;go_ret;exact ⟨_,rfl,by omega,Ob.newAt (Vz _ _) _ _,F0.alloc _⟩
 ):p:=h
theorem Bi {p:Prop} (h:p:=by
  rw [hLA] at hj';obtain ⟨ok,hok,e,he,hb,hon⟩:=Xq hLB (mem_ready.1 hj').1;rw [hoj] at hok;cases hok;exact absurd hon (hnot e he hb)
 ):p:=h
theorem Bj {p:Prop} (h:p:=by
  exact ⟨g,same,hx.rest (Ext.refl _ _) rfl rfl rfl (fun k=>by simp at k) (.inl Ma) Ma,fun a i k=>nomine _ a i (.inl Ma) k⟩
 ):p:=h
theorem Bo {p:Prop} (h:p:=by
  have A7:=(A6).kept F7 Mi Mj;have D7:=zo (D6) F7 Ma;obtain ⟨-,-,-,-,-,c5,-,-,-,-⟩:=xh h7;go_wp2;exact Lp
 ):p:=h
theorem Bp {p:Prop} (h:p:=by
  exact Stp.of rfl (Xt.inn (h5.re S6 (fun k hk hi=>by simp at hi;subst hi;simp only [List.mem_cons,List.mem_append] at hk;rcases hk with h | h | h | h <;> contradiction) o6 rfl rfl rfl rfl)) (fun k hk=>.inl hk) (A5.kept S6 Oe Oh) (D5.trans (S6.mono))
 ):p:=h
theorem Bq {p:Prop} (h:p:=by
  unfold Go.wpOp;simp only [hi];rcases hy with ⟨hw1,hv⟩ | ⟨hw1,rfl⟩
  ·simp only [hw1,if_true];obtain ⟨u,hu,he⟩:=hv w hw;exact .inl (Vo hu fun w' hw'=>by rw [Zt he];exact h w' hw')
  ·simp only [hw1,Bool.false_eq_true,if_false];exact h w (Fr.refl _ _)
 ):p:=h
theorem Br {p:Prop} (h:p:=by
  go_wp2_with fail;go_roundw
  case rel=>exact ⟨k+1,HI2.out.1,by simp,rfl,fun j z hj hz=>by
   by_cases e:j=k
   ·subst e;rw [HH.out.1] at hz;cases hz;exact HP.out
   ·exact HH.out.2 j z Ly hz⟩
  case measure=>exact meas rfl HI2.out.2
 ):p:=h
theorem Bs {p:Prop} (h:p:=by
  dsimp only at C1 C2;rw [<- HX1.out] at C1;exact ⟨rfl,⟨own3,_,C1⟩,HFW.out.trans ((FrO.of HE.out Ma).trans C2)⟩
 ):p:=h
theorem Bt {p:Prop} (h:p:=by
  exact ⟨hcm,hx.key,hx.wkey,fun _ e=>Mq,fun _ y e=>by simp only [Option.some.injEq] at e;rw [<- e];exact k,fun y e=>Nc,fun _ e=>Mq⟩
 ):p:=h
theorem Bu {p:Prop} (h:p:=by
  go_wp2;go_ret;exact ⟨rfl,rfl⟩
 ):p:=h
theorem Bv {p:Prop} (h:p:=by
  have n2:y.step v = { y with line:=3 }:=by unfold Wc.step Wc.beh Wc.behL;simp [e1,q]
  exact Lc
 ):p:=h
theorem Bz {p:Prop} (h:p:=by
  simp only [St.vg,xd] at hj;simp only [St.vg,Tc v hk,Array.getElem?_setIfInBounds,hc j hj,nth,List.getD_eq_getElem?_getD,List.getElem?_set];split
  ·rename_i hkj;subst hkj;rw [qg (by rw [hs];omega)];rfl
  ·rfl
 ):p:=h
theorem C0 {p:Prop} (h:p:=by
  have HG2:=qb (HG.out.own f21 (zh r12));clear r21 f21 r12 B12;go_wp2_with fail;go_roundw;case rel=>exact ⟨i+1,by omega,by go_num,by rw [HNX.out];exact HR.out,HG2.out⟩
  case measure=>simp [intOf];omega
 ):p:=h
theorem C8 {p:Prop} (h:p:=by
  go_wp2_with fail;go_ret;exact ⟨rfl,(Ob.set (Ob.set h5 _) (i:=6) (.int .i64 0)),(Rar.set (Rar.set A5 hp hq _) hp hq (i:=6) (.int .i64 0)),(Fr.setCell' (Fr.setCell' D5 _ Ma) (b:=b) (i:=6) (.int .i64 0) Ma)⟩
 ):p:=h
theorem Ca {p:Prop} (h:p:=by
  have A7:=A6.kept F7 Mi Mj;have D7:=zo D6 F7 Ma;clear h6 A6 D6 F7;obtain ⟨-,-,-,-,-,-,-,c7,-,-,-,-,-⟩:=xm h7;go_wp2_with fail;exact Lp
 ):p:=h
theorem Cb {p:Prop} (h:p:=by
  have k13:=qc c13;clear c0 c1 c2 c3 c4 c5 c6 c7 c8 c9 c10 c11 c12 c13 e3;refine wiq ?_;repeat (go_big_quiet_step (fail))
  refine wpQuiet_nil ?_;intro w2 F2;go_wp2_with fail;go_ret3;exact ⟨rfl,F2⟩
 ):p:=h
theorem Cc {p:Prop} (h:p:=by
  subst hn;exact ⟨rfl,⟨gv',h7,HG.out.imp id (fun ⟨ss,a1,a2,a3,a4⟩=>⟨ss,a1,a2,fun k hk=>⟨qi HW.out (a3 k hk).1,(a3 k hk).2⟩,fun s hs k hk=>⟨qi HW.out (a4 s hs k hk).1,(a4 s hs k hk).2⟩⟩)⟩,A7,D7⟩
 ):p:=h
theorem Cg {p:Prop} (h:p:=by
  rw [<- HX.out];unfold Mc.steps mkM;simp only [HTH.out,HGD.out,HQ.out.1];simp [HQ.out.2.1,HQ.out.2.2,HOV.out]
 ):p:=h
theorem Ci {p:Prop} (h:p:=by
  rcases hv with ⟨rfl,e0⟩ | ⟨g,c0,cur,rfl,-,-,h1,-⟩
  ·have hx0:os.length=0:=by first | exact e0 | omega
   exact ⟨none,0,by rw [hx0],by omega⟩
  ·exact ⟨_,c0,rfl,by first | exact h1 | omega⟩
 ):p:=h
theorem Cj {p:Prop} (h:p:=by
  obtain ⟨-,-,-,-,-,c5,-,-,-,-⟩:=xh h7;go_wp2;exact Lp
 ):p:=h
theorem Ck {p:Prop} (h:p:=by
  exact fun ⟨y,e,_⟩=>by first | cases e | (simp only at e;rw [em] at e;cases e) | (rw [em] at e;cases e)
 ):p:=h
theorem Cn {p:Prop} (h:p:=by
  generalize qx s.l x=pv at *;go_wp2_with fail;go_roundw;case rel=>exact ⟨i+1,by omega,by go_num,by rw [HN.out],HF.out⟩
  case measure=>simp [RowKit.intOf];omega
  all_goals (exfalso;omega)
 ):p:=h
theorem Co {p:Prop} (h:p:=by
  subst hji;exact hy.wpOp hi (hw.then h2) fun w' hw'=>⟨(hw.then h2).then hw',H.more (h2.trans hw')⟩
 ):p:=h
theorem Cq {p:Prop} (h:p:=by
  exact ⟨⟨by simp only;omega,by simp only;omega,by simp only;omega,fun y e=>by cases e;exact (Va.new h.c hk _ _).le Ly,fun y e=>Mq,fun y e=>Mq⟩,rfl,rfl,.inl Ma⟩
 ):p:=h
theorem Cr {p:Prop} (h:p:=by
  subst hn;have g:decide (v<=x.key)=true:=by simpa using hv0
  go_wp2_with fail;go_ret;exact ⟨rfl,(h6.set _).set _,(A6.set hp hq _).set hp hq _,(D6.setCell' _ Ma).setCell' _ Ma⟩
 ):p:=h
theorem Cs {p:Prop} (h:p:=by
  exact ⟨rfl,(Ob.set (Ob.set h6 _) (i:=7) (.int .i64 0)),(Rar.set (Rar.set A6 hp hq _) hp hq (i:=7) (.int .i64 0)),(Fr.setCell' (Fr.setCell' D6 _ Ma) (b:=b) (i:=7) (.int .i64 0) Ma)⟩
 ):p:=h
theorem Ct {p:Prop} (h:p:=by
  exact ⟨⟨fun y e=>(newp _ _ _ y hk e).1,fun y e=>Mq,fun y e=>Mq⟩,fun a i ⟨y,e,k⟩=>(newp _ _ _ y hk e).2.1 a i k,fun q ⟨y,e,k⟩=>(newp _ _ _ y hk e).2.2 q k⟩
 ):p:=h
theorem Cu {p:Prop} (h:p:=by
  rw [e];exact ⟨rfl,⟨own,y,HU.out.1⟩,FrO.of HU.out.2.2 Ma⟩
 ):p:=h
theorem Cv {p:Prop} (h:p:=by
  simp only [sel];repeat (go_big_quiet_step ((go_at_call 75;exact Calls.in_same (Ve _ _))))
  exact wpQuiet_nil rfl
 ):p:=h
theorem Cw {p:Prop} (h:p:=by
  rw [List.mem_singleton.1 ht] at hk;simp at hk;rcases hk with h | h | h
  ·exact .inl Nl
  ·exact .inl Nl
  ·exact .inr (by rw [h];exact hpb)
 ):p:=h
theorem Cx {p:Prop} (h:p:=by
  obtain ⟨c0,c1,c2,c3,c4,c5,c6⟩:=zn h2;go_wp2_with fail;go_ret;exact ⟨by rw [HB.out];rfl,l2,HN.out,A2,D2⟩
 ):p:=h
theorem Cy {p:Prop} (h:p:=by
  go_wp2_with fail;refine (Ref.Q5 x.t ht.1 ht.2 _).mono ?_;rintro e _ ⟨rfl,rfl⟩;rw [show (3:Int)+x.t=x.pa from rfl];go_wp2_with fail;go_ret;exact ⟨rfl,Fr.refl _ _⟩
 ):p:=h
theorem Cz {p:Prop} (h:p:=by
  subst hl;intro w2 h2;refine ⟨fun h0=>(by rw [hr] at h0;cases h0),fun j hj=>?_⟩;rw [hr] at hj;simp only [List.mem_singleton] at hj;subst hj;exact Z5 ho Xo (h w2 h2)
 ):p:=h
theorem Da {p:Prop} (h:p:=by
  have G:=((Fr.refl [] w).alloc _).trans F1;clear F1;go_wp2;go_ret;exact ⟨rfl,G⟩
 ):p:=h
theorem Db {p:Prop} (h:p:=by
  go_roundw;case rel=>exact ⟨k+1,HK2.out.1,by simp,by rw [HR8.out.2.2];exact HR8.out.1,HR8.out.2.1.1,HR8.out.2.1.2⟩
  case measure=>exact meas rfl HK2.out.2
 ):p:=h
theorem Dc {p:Prop} (h:p:=by
  have h0:a=aE:=by have:=h w0 (Fr.refl _ _);cases L <;> exact this
  subst h0;exact H
 ):p:=h
theorem De {p:Prop} (h:p:=by
  go_wp2_with fail;refine HK.out.mono ?_;rintro e w1 ⟨rfl,h1,F1⟩;have HR:=qb (qd h1 F1);clear HK h1 F1;go_wp2_with fail;go_ret;exact ⟨rfl,HR.out⟩
 ):p:=h
theorem Df {p:Prop} (h:p:=by
  go_enter Tryz.func6,Tryz.ntmps6;go_wp2;go_ret;exact ⟨by rw [e];rfl,F0⟩
 ):p:=h
theorem Dg {p:Prop} (h:p:=by
  rw [e];exact ⟨rfl,⟨_,_,HK.out.h⟩,HF.out⟩
 ):p:=h
theorem Dh {p:Prop} (h:p:=by
  have hi':=hi;rw [hr] at hi';obtain ⟨_,o,ho,_⟩:=mem_ready.1 hi;have ho':l[i]? = some o:=by simpa using ho
  exact Z5 ho' Xo (h w2 h2 i hi' o ho')
 ):p:=h
theorem Di {p:Prop} (h:p:=by
  rw [qg (h1 0 y Ly rfl),ih (k:=k) Nh (fun i z hi hz=>h1 (i+1) z Ly hz) (fun z hz=>h2 z (by simpa using hz))];simp
 ):p:=h
theorem Dj {p:Prop} (h:p:=by
  simp only [Bool.and_eq_true,Bool.or_eq_true,decide_eq_true_eq] at hl;omega
 ):p:=h
theorem Dk {p:Prop} (h:p:=by
  subst hn;go_wp2_with fail;go_ret;exact ⟨rfl,(h5.set _).set _,(A5.set hp hq _).set hp hq _,(D5.setCell' _ Ma).setCell' _ Ma⟩
 ):p:=h
theorem Dl {p:Prop} (h:p:=by
  go_enter Tryz.func120,Tryz.ntmps120;go_wp2_with (go_at_call 105;refine (vq _ _ _).mono ?_;rintro e _ ⟨rfl,rfl⟩);go_ret;exact ⟨rfl,F0⟩
 ):p:=h
theorem Dm {p:Prop} (h:p:=by
  rw [n1,n2];exact ⟨h.c,h.kb,.inl rfl,hk,rfl,h.a0,fun k=>by simp at k,fun k=>by simp at k,fun k=>by simp at k,fun _=>cu,fun k=>by simp at k⟩
 ):p:=h
theorem Dn {p:Prop} (h:p:=by
  have:=Array.all_eq_true_iff_forall_mem.1 all t (Array.mem_of_getElem? ht);have h2:Tryz.prog.wantsStandIn t=false:=by simpa using this
  exact h2
 ):p:=h
theorem Dp {p:Prop} (h:p:=by
  rw [e1];go_wp2;exact bodyPost_ret (v:=.tuple #[.int .i64 (-1),.int .i64 (-1)]) Pf rfl ⟨rfl,rfl⟩
 ):p:=h
theorem Dq {p:Prop} (h:p:=by
  rcases hc with h0 | ⟨g,off,rfl,-,hcell⟩
  ·exact hnil h0
  ·exact go ⟨g,off,none⟩ (fun j u hu=>by rw [addr_add];exact hcell j u hu) hx
 ):p:=h
theorem Dr {p:Prop} (h:p:=by
  simp only at e;split at e <;> omega
 ):p:=h
theorem Dt {p:Prop} (h:p:=by
  exact ⟨g,same,hx.rest (Ext.refl _ _) rfl rfl rfl (fun _=>h3) (.inr Ma) Ma,fun a i k=>nomine _ a i (.inr Ma) k⟩
 ):p:=h
theorem Du {p:Prop} (h:p:=by
  exact up ⟨h.c,h.kc,h.kt,h.t0,h.lo,h.w,fun e=>by simp at e,h.l,fun e=>by simp at e,h.n⟩
 ):p:=h
theorem Dv {p:Prop} (h:p:=by
  intro w2 h2;subst hg;exact ⟨rfl,wpAny_of_seq (md:=.any) (l.drop k) k LA a w2 (fun j=>by simp [List.getElem?_drop]) hB (h w2 h2)⟩
 ):p:=h
theorem Dx {p:Prop} (h:p:=by
  go_wp2_with fail;refine HX.out.mono ?_;rintro e w5 ⟨rfl,h5,F5⟩;go_wp2_with fail;go_end0;exact ⟨rfl,h5,F7.trans F5⟩
 ):p:=h
theorem Dy {p:Prop} (h:p:=by
  rw [Array.setIfInBounds_comm _ _ hji];exact h3.2.2
 ):p:=h
theorem Dz {p:Prop} (h:p:=by
  cases hq:qs with
  | nil=>exact absurd hq C.qn
  | cons z t=>rw [hq] at k;rw [k.1];simp
 ):p:=h
theorem E0 {p:Prop} (h:p:=by
  intro k hk;simp only [List.mem_cons] at hk;rcases hk with rfl | rfl | hk
  ·exact Ob.lt h1
  ·exact Ob.lt h2
  ·exact h3.lt k hk
 ):p:=h
theorem Ea {p:Prop} (h:p:=by
  go_wp2;go_ret;exact ⟨by unfold vz;rw [qg Ly];rfl,rfl⟩
 ):p:=h
theorem Eb {p:Prop} (h:p:=by
  go_wp2_with fail;go_ret;exact ⟨rfl,h5,A5,D5⟩
 ):p:=h
theorem Ec {p:Prop} (h:p:=by
  first | exact ((Fr.refl [b] w).setCell' (b:=b) _ Ma).drew | exact (((Fr.refl [b] w).drewN _).setCell' (b:=b) _ Ma)
 ):p:=h
theorem Ed {p:Prop} (h:p:=by
  unfold Wk.step;split
  ·unfold Wk.next Wk.head Wk.ends;repeat' split
   all_goals exact ⟨rfl,rfl⟩
  ·exact ⟨rfl,rfl⟩
 ):p:=h
theorem Ee {p:Prop} (h:p:=by
  split
  ·unfold Bd.five;simp only;split <;> rfl
  ·exact Lu
 ):p:=h
theorem Ef {p:Prop} (h:p:=by
  go_enter Tryz.func61,Tryz.ntmps61;go_wp2_with fail;go_ret;exact ⟨rfl,rfl⟩
 ):p:=h
theorem Eg {p:Prop} (h:p:=by
  exact ⟨h.oc,h.ok,h.ow,hcl,fun mm e=>by first | cases e | (simp only at e;rw [em] at e;cases e) | (rw [em] at e;cases e)⟩
 ):p:=h
theorem Eh {p:Prop} (h:p:=by
  refine (Z4 _ p q s 1 i (qx s.l i) false h).mono ?_;rintro e w' ⟨rfl,A1,F1⟩;go_wp2;go_ret;exact ⟨rfl,A1,F1.mono⟩
 ):p:=h
theorem Ei {p:Prop} (h:p:=by
  rw [Array.getElem?_toList] at e1;rw [e1,nth,St.fresh,List.getD_eq_getElem?_getD,List.getElem?_replicate,qg hi'];rfl
 ):p:=h
theorem Ej {p:Prop} (h:p:=by
  go_wp2_with fail;go_ret;exact ⟨rfl,rfl⟩
 ):p:=h
theorem Ek {p:Prop} (h:p:=by
  rw [<- HX.out];unfold Mc.steps mkM;simp only [HTH.out,HGD.out,HQ.out.1];simp [HQ.out.2.1,HQ.out.2.2,HOV.out,HPL.out]
 ):p:=h
theorem El {p:Prop} (h:p:=by
  rcases hBn k hk with e | e
  ·rw [yf]
   ·exact HBC.out k e
   exact (hP.kept F2 Ma).lt k e
  ·exact ym e
 ):p:=h
theorem Em {p:Prop} (h:p:=by
  subst he;exact ⟨_,rfl,Law.q2d (tb:=4) laidOut readable Tryz.underlying4 Me rfl rfl hW' hd.below⟩
 ):p:=h
theorem En {p:Prop} (h:p:=by
  have:=(Rel.low hc h ha).1;rw [ne _ Ly];exact h.rel.F a ha f h0 h1
 ):p:=h
theorem Eo {p:Prop} (h:p:=by
  refine wpQuiet_nil ?_;intro w1 F1;go_wp2;go_ret;exact ⟨q25 Ly,((Fr.refl [] w).alloc _).trans F1⟩
 ):p:=h
theorem Ep {p:Prop} (h:p:=by
  go_wp2_with fail;go_ret;exact ⟨rfl,(Ob.set h7 _),(Rar.set A7 hp hq _),(Fr.setCell' D7 _ Ma)⟩
 ):p:=h
theorem Es {p:Prop} (h:p:=by
  intro W base args ds gs before hval hW _ _ _ hL _ _;exact contract H enc W base args ds gs before hval hW hL
 ):p:=h
theorem Et {p:Prop} (h:p:=by
  refine wpQuiet_nil ?_;intro w2 F2;clear k0 d0 d1 d2 d3 HZ;go_wp2;go_ret;exact ⟨rfl,F0.trans F2⟩
 ):p:=h
theorem Eu {p:Prop} (h:p:=by
  obtain ⟨d,rfl⟩:=Nat.le.dest hl;clear hl;induction d with
  | zero=>exact h
  | succ d ih=>exact ih.more
 ):p:=h
theorem Ew {p:Prop} (h:p:=by
  go_wp2_with fail;go_ret;exact ⟨rfl,Fr.refl _ _⟩
 ):p:=h
theorem Ex {p:Prop} (h:p:=by
  exact ⟨qs,q1,q2.congr (fun y _=>by rw [e2]),fun y hy=>⟨(q3 y hy).1,by rw [eb];exact (q3 y hy).2⟩⟩
 ):p:=h
theorem Ey {p:Prop} (h:p:=by
  cases f with
  | zero=>exact fun w2 h2=>h w2 (k.trans h2)
  | succ f=>exact fun w2 h2=>h w2 (k.trans h2)
 ):p:=h
theorem Ez {p:Prop} (h:p:=by
  rcases Nat.lt_or_ge k listed.size with h' | h'
  ·exact h'
  ·simp [Array.getElem?_eq_none h'] at hk
 ):p:=h
theorem Fe {p:Prop} (h:p:=by
  cases eL:g.L with
  | nil=>rw [eL] at k;have:a=0:=k;omega
  | cons y t=>rw [eL] at k;rw [k.1];simp
 ):p:=h
theorem Fg {p:Prop} (h:p:=by
  exact Zn hc Mr (.inl h2) Mr cnt
 ):p:=h
theorem Fh {p:Prop} (h:p:=by
  rw [Qw hc Ly Ly];unfold Pl.Qs;rw [qf Ly,qf Ly,qf Ly];rfl
 ):p:=h
theorem Fp {p:Prop} (h:p:=by
  refine eq a 4 ?_;by_cases e:a=b
  ·right;intro e2;subst e;exact k (h4 e2.symm)
  ·exact .inl e
 ):p:=h
theorem Fs {p:Prop} (h:p:=by
  rw [List.mem_singleton.1 ht] at hk;exact .inl hk
 ):p:=h
theorem Ft {p:Prop} (h:p:=by
  have hc:=(q1d h0).1;obtain ⟨g,h,e⟩:=qad ds hc (Ux ds h0) ps Ly;exact ⟨g,h.ok⟩
 ):p:=h
theorem Fu {p:Prop} (h:p:=by
  exact ⟨hc,i0,i1,len,by simp,fun _=>h2,cnt⟩
 ):p:=h
theorem Fw {p:Prop} (h:p:=by
  go_wp2_with fail;go_end0;exact ⟨rfl,Ob.set h2 _,D2.trans (Fr.setCell _ Ma)⟩
 ):p:=h
theorem Ga {p:Prop} (h:p:=by
  rw [ne _ Mw];exact h.rel.hn
 ):p:=h
theorem Gb {p:Prop} (h:p:=by
  congr 3;by_cases h:i+1=r.length
  ·rw [qg h,qg Ly]
  ·rw [qf h,qf Ly]
 ):p:=h
theorem Gc {p:Prop} (h:p:=by
  rw [hx.cc];unfold yn;exact h.rel.ht _ Ly Ly
 ):p:=h
theorem Gd {p:Prop} (h:p:=by
  rw [hh,Zk Ox Oy,h.rel.hn,e1]
 ):p:=h
theorem Gf {p:Prop} (h:p:=by
  intro k hk;simp at hk;subst hk;exact Ob.lt h
 ):p:=h
theorem Gg {p:Prop} (h:p:=by
  rw [e1] at h1 ⊢;exact ⟨rfl,⟨x.lv,h1,sqK hs D1 hb hp2 hq2,.inl rfl⟩,A1,D1⟩
 ):p:=h
theorem Gh {p:Prop} (h:p:=by
  exact q0o.on hc h0 ht (by unfold Nd.met;simp only;have:=h2 (wm (x.told s) - 2);omega)
 ):p:=h
theorem Gi {p:Prop} (h:p:=by
  exact ⟨(Array.getElem?_eq_some_iff.1 hp).1,(Array.getElem?_eq_some_iff.1 hq).1⟩
 ):p:=h
theorem Gj {p:Prop} (h:p:=by
  rw [qf hr,qf (by rw [List.length_cons];have:=List.length_pos_iff.2 hr;omega)];simp
 ):p:=h
theorem Gl {p:Prop} (h:p:=by
  rw [qg e] at hsc;clear hb;go_wp2;go_ret;exact ⟨by rw [hsc];rfl,G1⟩
 ):p:=h
theorem Gm {p:Prop} (h:p:=by
  have:=h i hi;unfold J9 at this;simpa [List.getD_eq_getElem?_getD,hi] using this
 ):p:=h
theorem Gp {p:Prop} (h:p:=by
  first | cases e | (simp only at e;rw [hp] at e;cases e) | (rw [hp] at e;cases e)
 ):p:=h
theorem Gq {p:Prop} (h:p:=by
  rw [IntKind.wrap_u64,show (n:Int) % 18446744073709551616=n by omega];exact Wy n
 ):p:=h
theorem Gu {p:Prop} (h:p:=by
  exact ⟨hc,by simp,hv,by simp,fun _=>h4',by simp,by simp,hl,hg,hw,by simp,h0⟩
 ):p:=h
theorem Gv {p:Prop} (h:p:=by
  intro z hz;obtain ⟨j,hj⟩:=List.mem_iff_getElem?.1 hz;simpa using h j z hj
 ):p:=h
theorem Gw {p:Prop} (h:p:=by
  simp only [Option.some.injEq] at e;rw [<- e];exact k1
 ):p:=h
theorem Gx {p:Prop} (h:p:=by
  rw [List.getElem?_set_ne (fun e=>hi e.symm)] at hy;exact (h.th i y hy).more
 ):p:=h
theorem Gy {p:Prop} (h:p:=by
  have:=C.ne;cases L with
  | nil=>exact absurd rfl this
  | cons a r=>simp
 ):p:=h
theorem Gz {p:Prop} (h:p:=by
  have:=h j l[j] hj (List.getElem?_eq_getElem Ly);simpa using this
 ):p:=h
theorem H2 {p:Prop} (h:p:=by
  go_enter Tryz.func121,Tryz.ntmps121;go_wp2;go_ret;exact ⟨rfl,F0⟩
 ):p:=h
theorem H3 {p:Prop} (h:p:=by
  exact absurd (by rw [eL];simp [hx]) k
 ):p:=h
theorem Hb {p:Prop} (h:p:=by
  exact head5 _ _ (by exact hf.cc) rfl Ly
 ):p:=h
theorem He {p:Prop} (h:p:=by
  have:=World.block_lt_of_cell? W _ h00;simpa [Addr.add] using this
 ):p:=h
theorem Hf {p:Prop} (h:p:=by
  simp only at k;split at k <;> omega
 ):p:=h
theorem Hh {p:Prop} (h:p:=by
  have:=h.lines;rw [h.line];unfold lnW;repeat' split
  all_goals omega
 ):p:=h
theorem Hj {p:Prop} (h:p:=by
  exact Dw.q1v Ly Ly
 ):p:=h
theorem Hk {p:Prop} (h:p:=by
  go_wp2_with fail;go_ret;exact q07 (by unfold J5;rw [HR.out])
 ):p:=h
theorem Hl {p:Prop} (h:p:=by
  rw [List.take_add_one,hx,Option.toList_some,List.foldl_append];rfl
 ):p:=h
theorem Hm {p:Prop} (h:p:=by
  exact ⟨rfl,A2,(F1.mono).trans (F2.mono)⟩
 ):p:=h
theorem Hn {p:Prop} (h:p:=by
  go_wp2_with fail;go_ret;exact ⟨rfl,F0⟩
 ):p:=h
theorem Ho {p:Prop} (h:p:=by
  exact head5 _ _ (by exact hx.cc) Ly
 ):p:=h
theorem Hp {p:Prop} (h:p:=by
  exact ⟨g,off,rfl,hc 0 _ rfl,hc 1 _ rfl⟩
 ):p:=h
theorem Hq {p:Prop} (h:p:=by
  rw [q,Zk Mw Mw,h.rel.hn,e1]
 ):p:=h
theorem Hs {p:Prop} (h:p:=by
  exact .inr ⟨b,off,h5,ql h6 f.size,fun i hi=>Zz f (h7 i hi)⟩
 ):p:=h
theorem Ht {p:Prop} (h:p:=by
  obtain rfl:v = .slice none 0 0:=by simpa using hcs
  exact q65
 ):p:=h
theorem Hu {p:Prop} (h:p:=by
  repeat rw [heap_setCell_other _ _ _ _ (Ne.symm ne)]
  exact hq
 ):p:=h
theorem Hv {p:Prop} (h:p:=by
  simp only [Option.some.injEq] at e;rw [<- e];exact ⟨k3,k4⟩
 ):p:=h
theorem Hw {p:Prop} (h:p:=by
  go_wp2_with fail;go_ret;exact ⟨⟨_,rfl,HR.out⟩,F⟩
 ):p:=h
theorem Hy {p:Prop} (h:p:=by
  rw [ne _ Ly];exact h.rel.fz q hq
 ):p:=h
theorem Hz {p:Prop} (h:p:=by
  clear hw;go_wp2_with fail;go_ret;exact ⟨rfl,G⟩
 ):p:=h
theorem I0 {p:Prop} (h:p:=by
  unfold fit inF most Tq;rw [Bool.eq_iff_iff];simp;omega
 ):p:=h
theorem I1 {p:Prop} (h:p:=by
  have:=h.len;have:=List.length_pos_iff.2 hne;simp;omega
 ):p:=h
theorem I2 {p:Prop} (h:p:=by
  exact ⟨g,off,rfl,hc 0 _ rfl,hc 1 _ rfl,hc 2 _ rfl⟩
 ):p:=h
theorem I3 {p:Prop} (h:p:=by
  rw [heap_setCell_other _ _ _ _ (Ne.symm ne)];exact hq
 ):p:=h
theorem I4 {p:Prop} (h:p:=by
  go_wp2;go_ret;exact ⟨by rw [qd5,hb];simp;omega,F⟩
 ):p:=h
theorem I5 {p:Prop} (h:p:=by
  go_wp2_with fail;go_end0;exact ⟨rfl,h7,F7⟩
 ):p:=h
theorem I6 {p:Prop} (h:p:=by
  rw [head5 _ (by exact hx.cc)];omega
 ):p:=h
theorem I7 {p:Prop} (h:p:=by
  rw [qf hl];exact ⟨g,same,hx,hS⟩
 ):p:=h
theorem I8 {p:Prop} (h:p:=by
  simp only [Option.some.injEq] at e;rw [<- e];exact k
 ):p:=h
theorem I9 {p:Prop} (h:p:=by
  rw [hth i x hx] at k1;obtain ⟨y,e,-⟩:=k1;cases e
 ):p:=h
theorem Ia {p:Prop} (h:p:=by
  go_wp2;go_ret;exact ⟨rfl,HH.out,Fr.refl _ _⟩
 ):p:=h
theorem Ib {p:Prop} (h:p:=by
  rw [hrp] at G;exact ⟨g',G,mk _ G.ext e1⟩
 ):p:=h
theorem Ic {p:Prop} (h:p:=by
  rcases hk with rfl | rfl <;> omega
 ):p:=h
theorem Ie {p:Prop} (h:p:=by
  exact Stp.of rfl HP.out.inn HM.out HA6.out HD6.out
 ):p:=h
theorem Ig {p:Prop} (h:p:=by
  go_wp2_with fail;go_end0;exact ⟨rfl,h2,D2⟩
 ):p:=h
theorem Ih {p:Prop} (h:p:=by
  exact ⟨hc,h0,h8,hl,fun _=>ht⟩
 ):p:=h
theorem Ii {p:Prop} (h:p:=by
  split <;> exact ⟨rfl,rfl,rfl⟩
 ):p:=h
theorem Ij {p:Prop} (h:p:=by
  exact Stp.of rfl h5.inn (fun k hk=>.inl hk) A5 D5
 ):p:=h
theorem Ik {p:Prop} (h:p:=by
  obtain ⟨c7,c8,c9,c12⟩:=(HK.out.up Ff).mc;obtain ⟨t1,t3,t4,t5,-⟩:=(HK.out.up Ff).tc;simp only [HZ.out.1,HZ.out.2.1,HZ.out.2.2,vh] at t3 t4 t5;have k3:=qc t3;have k4:=qc t4;have k5:=qc t5;have k7:=qc c7;have k9:=qc c9;have k12:=qc c12;exact Ac
 ):p:=h
theorem Il {p:Prop} (h:p:=by
  have h5:=Ob.kept h1 F5 Mf;have D5:=zo D1 F5 Ma;clear A1 h1 D1 F5 A0 h0 D0;obtain ⟨c0,c1,c2,c3,c4,c5,c6,c7,c8⟩:=xe h5;have z:=h5.frozen;have hn:y = { x with line:=3 }:=by rw [<- HY.out];unfold Sl.next;simp [hl]
  exact Af
 ):p:=h
theorem Im {p:Prop} (h:p:=by
  obtain rfl:=qj ho;refine x8 rfl _ _ _ rfl _ _ rfl rfl rfl M7 (Qt Ly) (xc Ly Ly) (xc Ly Ly) ?_;intro w8 M8 F8;have D8:=D7.own F8 Ml;simp only [Act.put];clear M7 D7 F8 ho;refine qo ⟨D8,?_⟩;refine eoq 12 (fun w9 F9=>?_);exact Aa
 ):p:=h
theorem Io {p:Prop} (h:p:=by
  obtain rfl:=qj ho;refine x8 rfl _ _ _ rfl _ _ rfl rfl rfl M7 (Qt Ly) (xc Ly Ly) (xc Ly Ly) ?_;intro w8 M8 F8;have D8:=D7.own F8 Ml;simp only [Act.put];clear M7 D7 F8 ho;refine qo ⟨D8,?_⟩;refine eoq 3 (fun w9 F9=>?_);exact Aa
 ):p:=h
theorem Ip {p:Prop} (h:p:=by
  obtain rfl:=qj ho;refine x8 rfl _ _ _ rfl _ _ rfl rfl rfl M7 (Qt Ly) (xc Ly Ly) (xc Ly Ly) ?_;intro w8 M8 F8;have D8:=D7.own F8 Ml;simp only [Act.put];clear M7 D7 F8 ho;refine qo ⟨D8,?_⟩;refine eoq 6 (fun w9 F9=>?_);exact Aa
 ):p:=h
theorem Iq {p:Prop} (h:p:=by
  have i0:=qc (Ff.cell d0 Ma);have i1:=qc (Ff.cell d1 Ma);have i2:=qc (Ff.cell d2 Ma);have i3:=qc (Ff.cell d3 Ma);have i4:=qc (Ff.cell d4 Ma);have i5:=qc (Ff.cell d5 Ma);have i6:=qc (Ff.cell d6 Ma);exact Ac
 ):p:=h
theorem Ir {p:Prop} (h:p:=by
  obtain ⟨gl',ol',hgl,x0,x1,x2⟩:=xo (HL5.out.up Ff) hx;simp only [Option.some.injEq,Addr.mk.injEq] at hgl;obtain ⟨rfl,rfl,-⟩:=hgl;have j0:=qc x0;have j1:=qc x1;have j2:=qc x2;clear x0 x1 x2;exact Ac
 ):p:=h
theorem Iu {p:Prop} (h:p:=by
  obtain ⟨-,-,-,-,-,-,-,-,-,-,-,-,-,-,c14⟩:=z6 (h.up Ff);have k14:=qc c14;have q0:=qc ((ob.up Ff).cell (i:=0) rfl);have q1:=qc ((ob.up Ff).cell (i:=1) rfl);have q2:=qc ((ob.up Ff).cell (i:=2) rfl);clear c14;exact Ac
 ):p:=h
theorem Iw {p:Prop} (h:p:=by
  have k7:=qc (Ff.cell c7 Ma);have k3:=qc (Ff.cell t3 Ma);have k4:=qc (Ff.cell t4 Ma);have k5:=qc (Ff.cell t5 Ma);exact Ac
 ):p:=h
theorem Iy {p:Prop} (h:p:=by
  go_wp2_with fail;go_ret;exact ⟨rfl,(Ob.set (Ob.set h5 _) (i:=7) (.int .i64 7)),(Rar.set (Rar.set A5 hp hq _) hp hq (i:=7) (.int .i64 7)),(Fr.setCell' (Fr.setCell' D5 _ Ma) (b:=b) (i:=7) (.int .i64 7) Ma)⟩
 ):p:=h
theorem Iz {p:Prop} (h:p:=by
  rw [E2.out];first | rfl | (rw [qg H0.out];done) | (rw [qf H0.out];done) | (rw [qf (Int.not_le.mpr H0.out)];done) | (rw [qf (Int.not_lt.mpr H0.out)];done) | (rw [qg H0.out];rfl) | (rw [qf H0.out];rfl)
 ):p:=h
theorem L8 {p:Prop} (h:p:=by
  have k1:=qc d1;have k2:=qc d2;have k3:=qc d3;clear d1 d2 d3;exact Ac
 ):p:=h
theorem L9 {p:Prop} (h:p:=by
  have hf:Z8 wf b x:=Ob.kept h Ff Mf;obtain ⟨-,-,-,-,c4,-,c6,-,c8,-⟩:=xh hf;have k4:=qc c4;have k6:=qc c6;have k8:=qc c8;clear c4 c6 c8;exact Ac
 ):p:=h
theorem La {p:Prop} (h:p:=by
  go_enter Tryz.func43,Tryz.ntmps43;exact Av
 ):p:=h
theorem Lb {p:Prop} (h:p:=by
  go_wp2_with fail;refine (H.out _).mono ?_;rintro e w1 ⟨rfl,rfl⟩;exact Av
 ):p:=h
theorem Lc {p:Prop} (h:p:=by
  rw [n1,n2];exact ⟨h.c,h.kb,.inr rfl,hk,rfl,h.a0,fun k=>by simp at k,fun k=>by simp at k,fun _=>a3,fun k=>by simp at k,fun k=>by simp at k⟩
 ):p:=h
theorem Le {p:Prop} (h:p:=by
  have A7:=A6.kept F7 Mi Mj;have D7:=zo D6 F7 Ma;clear h6 A6 D6 F7;exact Be
 ):p:=h
theorem Lf {p:Prop} (h:p:=by
  obtain ⟨-,-,-,-,-,-,-,-,c8,c9,-,-,-,-⟩:=zi hf;have k8:=qc c8;have k9:=qc c9;clear hf c8 c9;exact Ac
 ):p:=h
theorem Lg {p:Prop} (h:p:=by
  have hn:y = { x with line:=0 }:=by rw [<- HY.out];unfold Cl.next;simp [hl,hv0];try omega
  exact Af
 ):p:=h
theorem Lh {p:Prop} (h:p:=by
  refine wpQuiet_nil ?_;intro w2 F2;go_wp2_with fail;go_ret;exact ⟨by rw [HN.out];rfl,F2⟩
 ):p:=h
theorem Li {p:Prop} (h:p:=by
  obtain ⟨-,-,-,-,-,-,-,-,c8⟩:=Vs (h.up Ff);have k8:=qc c8;clear c8;exact Ac
 ):p:=h
theorem Lj {p:Prop} (h:p:=by
  go_wp2_with fail;refine (Qb t c wd v h1 h2 _).mono ?_;rintro e w1 ⟨rfl,F1⟩;exact Da
 ):p:=h
theorem Ll {p:Prop} (h:p:=by
  go_wp2_with fail;refine (Vy t c wd v h1 h2 _).mono ?_;rintro e w1 ⟨rfl,F1⟩;exact Da
 ):p:=h
theorem Lm {p:Prop} (h:p:=by
  go_ret;exact ⟨rfl,(Ob.set h5 _),(Rar.set A5 hp hq _),(Fr.setCell' D5 _ Ma)⟩
 ):p:=h
theorem Lp {p:Prop} (h:p:=by
  go_ret;exact ⟨rfl,h7,A7,D7⟩
 ):p:=h
theorem Lr {p:Prop} (h:p:=by
  refine (Ru _ b _ h6).mono ?_;rintro e w7 ⟨rfl,h7,F7⟩;exact Bo
 ):p:=h
theorem Ls {p:Prop} (h:p:=by
  clear c0 c1 c2 c3 c4 c5 c6 c7 c8 c9 c10 c11 c12 c13 c14;exact Ac
 ):p:=h
theorem Lt {p:Prop} (h:p:=by
  go_enter Tryz.func57,Tryz.ntmps57;exact Bu
 ):p:=h
theorem Lu {p:Prop} (h:p:=by
  split
  ·rfl
  ·split
   ·rfl
   ·split <;> rfl
 ):p:=h
theorem Lv {p:Prop} (h:p:=by
  repeat (go_big_quiet_step (fail))
  exact wpQuiet_nil rfl
 ):p:=h
theorem Lx {p:Prop} (h:p:=by
  clear e;go_enter Tryz.func12,Tryz.ntmps12;exact Bu
 ):p:=h
end Go.Proofs.YtbddhncgemeohaaGreatDoor
namespace Go.Proofs.YtbddhncgemeohaaGreatDoor
theorem qb {p:Prop} (h:p):RowKit.Hid p:=Lib.hid h
theorem qd {a b:Prop} (h:a) (k:b):a/\b:=⟨h,k⟩
theorem qf.{u} {c:Prop} {h:Decidable c} (n:¬c) {α:Sort u} {t e:α}:ite c t e=e:=if_neg n
theorem qg.{u} {c:Prop} {h:Decidable c} (n:c) {α:Sort u} {t e:α}:ite c t e=t:=if_pos n
theorem qh.{u} {α:Sort u} {p:α->Prop} (w:α) (h:p w):Exists p:=⟨w,h⟩
theorem qi {n m k:Nat} (h:n<=m) (g:m<=k):n<=k:=Nat.le_trans h g
theorem qj.{u} {α:Type u} {a b:α} (h:some a=some b):a=b:=Option.some.inj h
theorem ql {n m k:Nat} (h:n<m) (g:m<=k):n<k:=Nat.lt_of_lt_of_le h g
end Go.Proofs.YtbddhncgemeohaaGreatDoor
set_option linter.unusedVariables false
set_option linter.unusedSimpArgs false
set_option maxRecDepth 100000
set_option maxHeartbeats 12800000
namespace Go.Proofs.YtbddhncgemeohaaGreatDoor.Ar
open Go.RowKit
structure Fr (S:List Nat) (w w':World):Prop where
 os:w'.os=w.os
 tape:w'.tape=w.tape
 output:w'.output=w.output
 size:w.heap.size<=w'.heap.size
 block:∀ k,k<w.heap.size->k∉S->w'.heap[k]? = w.heap[k]?
theorem Fr.refl (S:List Nat) (w:World):Fr S w w:=⟨rfl,rfl,rfl,Nat.le_refl _,fun _ _ _=>rfl⟩
theorem Fr.trans {S:List Nat} {a b c:World} (h:Fr S a b) (k:Fr S b c):Fr S a c :=
 ⟨k.os.trans h.os,k.tape.trans h.tape,k.output.trans h.output,qi h.size k.size,fun i hi hn=>(k.block i (ql hi h.size) hn).trans (h.block i hi hn)⟩
theorem Fr.mono {S T:List Nat} {a b:World} (h:Fr S a b) (hs:∀ k,k∈S->k∈T:=by simp):Fr T a b :=
 ⟨h.os,h.tape,h.output,h.size,fun i hi hn=>h.block i hi (fun e=>hn (hs i e))⟩
theorem Fr.own {S:List Nat} {a b c:World} (h:Fr [] a b) (k:Fr S b c) (hs:∀ i,i∈S->a.heap.size<=i):Fr [] a c :=
 ⟨k.os.trans h.os,k.tape.trans h.tape,k.output.trans h.output,qi h.size k.size,fun i hi _=>(k.block i (ql hi h.size) (fun e=>Nat.not_le_of_lt hi (hs i e))).trans (h.block i hi Ma)⟩
theorem Fr.drew {S:List Nat} {a w:World} (h:Fr S a w):Fr S a w.drew:=⟨h.os,h.tape,h.output,h.size,h.block⟩
theorem Fr.heap {S:List Nat} {w w':World} {b:Nat} {o:Obj} (f:Fr S w w') (h:w.heap[b]? = some o) (hn:b∉S):w'.heap[b]? = some o:=(f.block b (Array.getElem?_eq_some_iff.1 h).1 hn).trans h
theorem Fr.below {w w':World} (f:Fr [] w w'):Below w.heap.size w w':=⟨f.os,f.tape,f.output,f.size,fun k hk=>f.block k hk Ma⟩
theorem Fr.setCell {S:List Nat} {w:World} {b i:Nat} (v:Value) (h:b∈S):Fr S w (w.setCell ⟨b,i,none⟩ v) :=
 ⟨rfl,rfl,rfl,by simp,fun k _ hn=>heap_setCell_other _ _ _ _ (fun e=>hn (by rw [e];exact h))⟩
theorem Fr.setCell' {S:List Nat} {a w:World} (h:Fr S a w) {b i:Nat} (v:Value) (hb:b∈S):Fr S a (w.setCell ⟨b,i,none⟩ v):=h.trans (Fr.setCell v hb)
theorem Fr.alloc {S:List Nat} {a w:World} (h:Fr S a w) (o:Obj):Fr S a (w.alloc o) :=
 h.trans ⟨rfl,rfl,rfl,by simp,fun k hk _=>heap_alloc_old w o hk⟩
theorem Fr.grown {w w':World} (h:w.grownBy w' none):Fr [] w w':=⟨h.os,h.tape,h.output,h.size,fun k hk _=>h.block k hk Ma⟩
theorem Xl {P:Program} {ops:Array Oper} {C:World->Prop} {Q Q':Act->Prop} (h:∀ a,Q a->Q' a):∀ (l:List Oper) (a:Act),wpQuiet P ops C Q l a->wpQuiet P ops C Q' l a
 | [],a,hh=>h a hh
 | o :: rest,a,hh=>by
  unfold wpQuiet at hh ⊢;split
  ·rename_i hw;rw [qg hw] at hh;exact Oper.quiet_mono (Xl h rest) hh
  ·rename_i hw;rw [qf hw] at hh;exact Xl h rest _ hh
theorem Fr.then {S:List Nat} {a b c:World} (h:Fr S a b) (k:Fr [] b c):Fr S a c:=h.trans (k.mono Ma)
theorem Fr.cell {S:List Nat} {w w':World} (f:Fr S w w') {b i:Nat} {v:Value} (h:w.cell? ⟨b,i,none⟩=some v) (hn:b∉S):w'.cell? ⟨b,i,none⟩=some v :=
 (World.cell?_of_block (f.block b (World.block_lt_of_cell? w _ h) hn)).trans h
theorem q25 {k:IntKind} {a b:Int} (h:a=b):Ending.returned (.int k a) = .returned (.int k b):=by rw [h]
def In (w:World):Type:={ x:World // Fr [] w x }
def In.at_ {w:World} (s:In w):World:=s.1
theorem In.fr {w:World} (s:In w):Fr [] w s.at_:=s.2
instance (w:World):Nonempty (In w):=⟨⟨w,Fr.refl _ _⟩⟩
theorem qc {w:World} {b i:Nat} {v:Value} (h:w.cell? ⟨b,i,none⟩=some v) (s:In w):s.at_.cell? ⟨b,i,none⟩=some v:=s.fr.cell h Ma
theorem Sj {P:Program} {id:Nat} {Q:Exit->Act->World->Prop} {a:Act} {w:World} {l:List Oper} (hm:P.follows .mixedOrders=true) (hB:Region.lexB .any l.toArray=true)
  (h:wpQuiet P l.toArray (fun w'=>∃ s:In w,w'=s.at_) (fun a'=>∀ w',Fr [] w w'->Q .normal a' w') l a):(Code.region id l.toArray true).wp P Q a w :=
 wp_region_quiet (C:=fun w'=>∃ s:In w,w'=s.at_) hm hB ⟨⟨_,(Fr.refl [] w).drew⟩,rfl⟩ (Xl (fun a h w' hw=>by obtain ⟨s,rfl⟩:=hw;exact h _ s.fr) _ _ Pz)
theorem wiq {P:Program} {id:Nat} {Q:Exit->Act->World->Prop} {a:Act} {w:World} {l:List Oper} (h:wpQuiet P l.toArray (fun w'=>∃ s:In w,w'=s.at_) (fun a'=>∀ w',Fr [] w w'->Q .normal a' w') l a) (hm:P.follows .mixedOrders=true:=by kernel_rfl) (hB:Region.lexB .any l.toArray=true:=by kernel_rfl):(Code.region id l.toArray true).wp P Q a w:=Sj hm hB h
theorem Calls.in_ {P:Program} {f:FuncId} {args:Array Value} {w:World} {s:In w} {v:Value}
  (h:Calls P f args s.at_ fun e w'=>e = .returned v/\Fr [] s.at_ w'):Calls P f args s.at_ fun e w''=>e = .returned v/\∃ s':In w,w''=s'.at_ :=
 h.mono fun _ _ ⟨he,hf⟩=>⟨he,⟨⟨_,s.fr.trans hf⟩,rfl⟩⟩
theorem Calls.in_same {P:Program} {f:FuncId} {args:Array Value} {w:World} {s:In w} {v:Value}
  (h:Calls P f args s.at_ fun e w'=>e = .returned v/\s.at_=w'):Calls P f args s.at_ fun e w''=>e = .returned v/\∃ s':In w,w''=s'.at_ :=
 h.mono fun _ _ ⟨he,hf⟩=>⟨he,⟨s,hf.symm⟩⟩
section
variable {P:Program} {ops:Array Oper} {Q:Exit->Act->World->Prop} {md:Region.Mode} {w0:World} {S:List Nat}
def Env (P:Program) (md:Region.Mode) (ops:Array Oper) (Q:Exit->Act->World->Prop) (S:List Nat) (w0:World):Nat->Array Bool->Act->World->Prop
 | 0,listed,a,w=>∀ w2,Fr [] w w2->Region.ready md ops listed=[]/\Q .normal a w2
 | f+1,listed,a,w=>∀ w2,Fr [] w w2->(Region.ready md ops listed=[]->Q .normal a w2) /\
   ∀ i∈Region.ready md ops listed,wpOp P ops Q i (fun a' w'=>Fr S w0 w'/\Env P md ops Q S w0 f (listed.setIfInBounds i true) a' w') a w2
theorem Env.more {f:Nat} {listed:Array Bool} {a:Act} {w w':World} (h:Env P md ops Q S w0 f listed a w) (g:Fr [] w w'):Env P md ops Q S w0 f listed a w':=by
 cases f with
 | zero=>exact fun w2 h2=>h w2 (g.trans h2)
 | succ f=>exact fun w2 h2=>h w2 (g.trans h2)
theorem Env.sound:∀ (f:Nat) (listed:Array Bool) (a:Act) (w:World),Env P md ops Q S w0 f listed a w->wpAny P md ops Q f listed a w
 | 0,_,_,w,h=>h w (Fr.refl _ _)
 | f+1,_,_,w,h=>⟨(h w (Fr.refl _ _)).1,fun i hi=>wpOp_mono (fun a' w' hh=>Env.sound f _ a' w' hh.2) ((h w (Fr.refl _ _)).2 i hi)⟩
def We (P:Program) (ops:Array Oper) (S:List Nat) (w0:World) (o:Oper) (v:Value) (a:Act):Prop :=
 (Region.wanted o (yielded ops a.tmps)=true/\∀ w,Fr S w0 w->∃ u,o.quietAt P a (fun w'=>Fr [] w w') w u/\(o.dst=none\/u=v)) \/
 (Region.wanted o (yielded ops a.tmps)=false/\v=undef)
theorem Zt {a:Act} {d:Option Tmp} {u v:Value} (h:d=none\/u=v):a.put d u=a.put d v:=by rcases h with rfl | rfl <;> rfl
theorem Vo {o:Oper} {a:Act} {w:World} {v:Value} {K:Act->World->Prop} (hu:o.quietAt P a (fun w'=>Fr [] w w') w v) (h:∀ w',Fr [] w w'->K (a.put o.dst v) w'):o.wp P a w K Q:=by
 unfold Oper.quietAt at hu;unfold Oper.wp;generalize (execOp a.eval o).run P w=r at *;cases r with
 | ok n w' =>
  cases n <;> simp only [Oper.quietUpon] at hu <;> simp only [Oper.upon];case value u=>obtain ⟨e1,e2⟩:=hu;rw [e1,e2];exact h _ (Fr.refl _ _)
  case skip=>obtain ⟨e1,e2⟩:=hu;rw [e1,<- e2];exact h _ (Fr.refl _ _)
  case enter f args=>obtain ⟨e1,hc⟩:=hu;rw [e1];exact hc.mono fun e w'' ⟨he,hw''⟩=>by subst he;exact h _ hw''
 | halt x w'=>simp only [Oper.quietUpon] at hu
theorem We.wpOp {i:Nat} {o:Oper} {v:Value} {a:Act} (hi:ops[i]? = some o) (hy:We P ops S w0 o v a) {K:Act->World->Prop} {w:World} (hw:Fr S w0 w)
  (h:∀ w',Fr [] w w'->K (a.put o.dst v) w'):wpOp P ops Q i K a w:=by
 exact Bq
theorem We.of_same {o:Oper} {v:Value} {a a':Act} (hy:We P ops S w0 o v a) (he:execOp a'.eval o=execOp a.eval o)
  (hw:Region.wanted o (yielded ops a'.tmps)=Region.wanted o (yielded ops a.tmps)):We P ops S w0 o v a':=by
 unfold We Oper.quietAt at *;rw [he,hw];exact hy
theorem We.other {j:Nat} {oi oj:Oper} {v:Value} (hj:ops[j]? = some oj) (hap:oi.apart ops oj=true)
  (hsi:∀ cs b,oi.op ≠ .select cs b) (hsj:∀ cs b,oj.op ≠ .select cs b)
  (hQ:∀ c a d v w,Q (.panic c) (a.put d v) w->Q (.panic c) a w) {K:Act->World->Prop} {a:Act} {w:World}
  (hy:We P ops S w0 oi v a) (h:Go.wpOp P ops Q j K (a.put oi.dst v) w) :
  Go.wpOp P ops Q j (fun a' w'=>We P ops S w0 oi v a'/\K (a'.put oi.dst v) w') a w:=by
 obtain ⟨h1,h2,h3⟩:=Oper.apart_spec hap
 have keep:∀ (a:Act),We P ops S w0 oi v a->∀ u,We P ops S w0 oi v (a.put oj.dst u):=fun a hy u =>
  hy.of_same (execOp_put oi hsi a oj.dst u h3) (wanted_put oi a oj.dst u h3)
 have keepD:∀ d,We P ops S w0 oi v { a with defers:=d :: a.defers }:=fun d=>hy.of_same rfl rfl
 exact Ae
theorem Env.first {i:Nat} {oi:Oper} {v:Value} (hi:ops[i]? = some oi) (hsel:Region.noSelect ops=true)
  (hQ:∀ c a d v w,Q (.panic c) (a.put d v) w->Q (.panic c) a w):∀ (f:Nat) (listed:Array Bool) (a:Act) (w:World),
   (∀ j oj,ops[j]? = some oj->j≠i->listed.getD j true=false->(∀ e∈oj.after,Region.binds md e=true->e.on≠i)->oi.apart ops oj=true) ->
   i∈Region.ready md ops listed->We P ops S w0 oi v a->Fr S w0 w ->
   Env P md ops Q S w0 f (listed.setIfInBounds i true) (a.put oi.dst v) w->Env P md ops Q S w0 (f+1) listed a w
 | f,listed,a,w,hfree,hr,hy,hw,H=>fun w2 h2=>by
  refine ⟨fun h=>Oc,fun j hj=>?_⟩;by_cases hji:j=i
  ·exact Co
  ·have hj':=ready_mono (i:=i) hj hji;cases f with
   | zero=>have:=(H w2 h2).1;rw [this] at hj';cases hj'
   | succ f =>
    have h1:=(H w2 h2).2 j hj';obtain ⟨hjun,oj,hoj,hall⟩:=mem_ready.1 hj
    have hnot:∀ e∈oj.after,Region.binds md e=true->e.on≠i:=fun e he hb heq=>Aq
    have g2:=hy.other hoj (hfree j oj hoj hji hjun hnot) (fun cs b=>Region.noSelect_spec hsel i oi cs b hi) (fun cs b=>Region.noSelect_spec hsel j oj cs b hoj) hQ h1
    have hfree':∀ k ok,ops[k]? = some ok->k≠i->(listed.setIfInBounds j true).getD k true=false ->
      (∀ e∈ok.after,Region.binds md e=true->e.on≠i)->oi.apart ops ok=true:=fun k ok hk hki hun hno=>by
     refine hfree k ok hk hki ?_ hno
     by_cases hjk:j=k
     ·subst hjk;exact hjun
     ·rw [getD_set_ne true hjk] at hun;exact hun
    refine wpOp_mono (fun a' w' h3=>⟨h3.2.1,Env.first hi hsel hQ f (listed.setIfInBounds j true) a' w' hfree' (ready_mono hr (Ne.symm hji)) h3.1 h3.2.1 ?_⟩) g2;exact Dy
def sel:List Bool->List Oper->List Oper
 | true :: m,o :: r=>o :: sel m r
 | false :: m,_ :: r=>sel m r
 | _,_=>[]
def Ql (md:Region.Mode) (ops:Array Oper):Nat->List Bool->Array Bool->Bool
 | k,true :: m,listed=>(Region.ready md ops listed).contains k && Region.free md ops listed k && Ql md ops (k+1) m (listed.setIfInBounds k true)
 | k,false :: m,listed=>Ql md ops (k+1) m listed
 | _,[],_=>true
def Y0:Nat->List Bool->Array Bool->Array Bool
 | k,true :: m,listed=>Y0 (k+1) m (listed.setIfInBounds k true)
 | k,false :: m,listed=>Y0 (k+1) m listed
 | _,[],listed=>listed
def countB:List Bool->Nat
 | true :: m=>countB m+1
 | false :: m=>countB m
 | []=>0
def Tm (n:Nat):List Oper->Bool
 | []=>true
 | o :: r=>(match o.dst with | some d=>decide (d<n) && r.all fun x=>x.dst != some d | none=>true) && Tm n r
theorem size_put (a:Act) (d:Option Tmp) (v:Value):(a.put d v).tmps.size=a.tmps.size:=by cases d <;> simp [Act.put]
theorem yc {C:World->Prop} {aE:Act} {d:Nat}:∀ (l:List Oper) (a:Act),(l.all fun x=>x.dst != some d)=true->wpQuiet P ops C (fun a'=>a'=aE) l a->aE.tmps[d]? = a.tmps[d]?
 | [],a,_,h=>by rw [show a=aE from h]
 | o :: r,a,hd,h=>by
  simp only [List.all_cons,Bool.and_eq_true] at hd
  have hput:∀ v,(a.put o.dst v).tmps[d]? = a.tmps[d]?:=fun v=>by
   cases ho:o.dst with
   | none=>rfl
   | some e =>
    have hne:e≠d:=fun he=>by subst he;rw [ho] at hd;simp at hd
    simp [Act.put,Array.getElem?_setIfInBounds_ne hne]
  unfold wpQuiet at h;split at h
  ·obtain ⟨v,_,h2⟩:=h;exact (yc r _ hd.2 h2).trans (hput v)
  ·exact (yc r _ hd.2 h).trans (hput _)
theorem Qm (hs:Region.noSelect ops=true) (hQ:∀ c a d v w,Q (.panic c) (a.put d v) w->Q (.panic c) a w) {aE:Act} {n f:Nat} :
  ∀ (m:List Bool) (L:List Oper) (k:Nat) (listed:Array Bool) (a:Act) (w:World),(∀ j,L[j]? = ops[k+j]?)->Ql md ops k m listed=true->Tm n (sel m L)=true->a.tmps.size=n->Fr S w0 w ->
   (∀ wf,Fr S w0 wf->wpQuiet P ops (fun w'=>∃ s:In wf,w'=s.at_) (fun a'=>a'=aE) (sel m L) a)->Env P md ops Q S w0 f (Y0 k m listed) aE w->Env P md ops Q S w0 (f+countB m) listed a w
 | [],L,k,listed,a,w,_,_,_,_,_,h,H=>by
  exact Dc
 | false :: m,[],k,listed,a,w,hL,hB,hd,hn,hw,h,H=>Qm hs hQ m [] (k+1) listed a w (fun j=>by have:=hL (j+1);simpa [Nat.add_assoc,Nat.add_comm 1 j] using this) hB N9 hn hw (fun wf hf=>by have:=h wf hf;cases m with | nil=>exact this | cons b m=>cases b <;> exact this) H
 | false :: m,o :: L,k,listed,a,w,hL,hB,hd,hn,hw,h,H=>Qm hs hQ m L (k+1) listed a w (fun j=>by have:=hL (j+1);simpa [Nat.add_assoc,Nat.add_comm 1 j] using this) hB hd hn hw h H
 | true :: m,[],k,listed,a,w,hL,hB,_,_,_,_,_=>by
  exfalso
  simp only [Ql,Bool.and_eq_true] at hB
  have hr:k∈Region.ready md ops listed:=by simpa using hB.1.1
  obtain ⟨_,o,ho,_⟩:=mem_ready.1 hr
  have:=hL 0
  simp [ho] at this
 | true :: m,o :: L,k,listed,a,w,hL,hB,hd,hn,hw,h,H=>by
  have h0:ops[k]? = some o:=by simpa using (hL 0).symm
  simp only [Ql,Bool.and_eq_true] at hB
  obtain ⟨⟨hr,hf⟩,hB'⟩:=hB
  simp only [sel,Tm,Bool.and_eq_true] at hd
  obtain ⟨hd1,hd2⟩:=hd
  have key:∃ v,We P ops S w0 o v a/\∀ wf,Fr S w0 wf->wpQuiet P ops (fun w'=>∃ s:In wf,w'=s.at_) (fun a'=>a'=aE) (sel m L) (a.put o.dst v):=by
   by_cases hw1:Region.wanted o (yielded ops a.tmps)=true
   ·have h':∀ wf,Fr S w0 wf->o.quiet P a (fun w'=>∃ s:In wf,w'=s.at_) (wpQuiet P ops (fun w'=>∃ s:In wf,w'=s.at_) (fun a'=>a'=aE) (sel m L)):=fun wf hf=>by
     have:=h wf hf
     simp only [sel,wpQuiet] at this
     rwa [qg hw1] at this
    obtain ⟨v,_,hv2⟩:=h' w0 (Fr.refl _ _)
    have same:∀ wf,Fr S w0 wf->∀ u,wpQuiet P ops (fun w'=>∃ s:In wf,w'=s.at_) (fun a'=>a'=aE) (sel m L) (a.put o.dst u)->o.dst=none\/u=v:=fun wf hf u hu=>by
     cases hod:o.dst with
     | none=>exact .inl rfl
     | some d =>
      rw [hod] at hd1 hu hv2
      simp only [Bool.and_eq_true,decide_eq_true_eq] at hd1
      have e1:=yc (sel m L) _ hd1.2 hu
      have e2:=yc (sel m L) _ hd1.2 hv2
      have hlt:d<a.tmps.size:=by rw [hn];exact hd1.1
      rw [e1] at e2
      simp [Act.put,hlt] at e2
      exact .inr e2
    refine ⟨v,.inl ⟨hw1,fun wf hf=>?_⟩,fun wf hf=>?_⟩
    ·obtain ⟨u,hu1,hu2⟩:=h' wf hf
     refine ⟨u,?_,same wf hf u hu2⟩
     have hq:=hu1 wf ⟨⟨wf,Fr.refl _ _⟩,rfl⟩
     unfold Oper.quietAt at hq ⊢
     generalize (execOp a.eval o).run P wf=r at *
     cases r with
     | ok x w' =>
      cases x <;> simp only [Oper.quietUpon] at hq ⊢
      case value=>exact hq
      case skip=>exact hq
      case enter g args=>exact ⟨hq.1,hq.2.mono fun e w'' ⟨he,s,hs⟩=>⟨he,hs ▸ s.fr⟩⟩
     | halt x w'=>exact hq
    ·obtain ⟨u,_,hu2⟩:=h' wf hf
     rw [<- Zt (same wf hf u hu2)];exact hu2
   ·refine ⟨undef,.inr ⟨by simpa using hw1,rfl⟩,fun wf hf=>?_⟩
    have:=h wf hf
    simp only [sel,wpQuiet] at this
    rwa [qf hw1] at this
  obtain ⟨v,hy,hK⟩:=key
  exact Env.first h0 hs hQ (f+countB m) listed a w (Region.free_spec h0 hf) Ou hy hw
   (Qm hs hQ m L (k+1) _ _ w (fun j=>by have:=hL (j+1);simpa [Nat.add_assoc,Nat.add_comm 1 j] using this) hB' hd2 O9 hw hK H)
end
section
variable {P:Program} {l:List Oper} {Q:Exit->Act->World->Prop} {w0:World} {S:List Nat}
theorem ze {id:Nat} {a:Act} {w:World} (hm:P.follows .mixedOrders=true) (S:List Nat) (h:∀ w1,Fr [] w w1->Env P .any l.toArray Q S w l.length (Array.replicate l.length false) a w1):(Code.region id l.toArray true).wp P Q a w :=
 wp_region_any hm (by simpa using Env.sound _ _ _ _ (h w.drew (Fr.refl [] w).drew))
theorem Z2 (m:List Bool) (f:Nat) {g n:Nat} {listed listed':Array Bool} {a:Act} {w:World} (hf:f+countB m=g) (hs:Region.noSelect l.toArray=true) (hB:Ql .any l.toArray 0 m listed=true)
  (hd:Tm n (sel m l)=true) (hn:a.tmps.size=n) (hl:Y0 0 m listed=listed') (hQ:∀ c a d v w,Q (.panic c) (a.put d v) w->Q (.panic c) a w) (hw:Fr S w0 w)
  (h:∃ aE,(∀ wf,Fr S w0 wf->wpQuiet P l.toArray (fun w'=>∃ s:In wf,w'=s.at_) (fun a'=>a'=aE) (sel m l) a)/\Env P .any l.toArray Q S w0 f listed' aE w):Env P .any l.toArray Q S w0 g listed a w:=by
 subst hf;subst hl;obtain ⟨aE,h,H⟩:=h;exact Qm hs hQ m l 0 listed a w Ma hB hd hn hw h H
theorem epq (m:List Bool) (f:Nat) {g n:Nat} {listed listed':Array Bool} {a:Act} {w:World} (hw:Fr S w0 w) (h:∃ aE,(∀ wf,Fr S w0 wf->wpQuiet P l.toArray (fun w'=>∃ s:In wf,w'=s.at_) (fun a'=>a'=aE) (sel m l) a)/\Env P .any l.toArray Q S w0 f listed' aE w) (hn:a.tmps.size=n:=by exact rfl) (hl:Y0 0 m listed=listed':=by exact rfl) (hf:f+countB m=g:=by exact rfl) (hs:Region.noSelect l.toArray=true:=by kernel_rfl) (hB:Ql .any l.toArray 0 m listed=true:=by kernel_rfl) (hd:Tm n (sel m l)=true:=by kernel_rfl) (hQ:∀ c a d v w,Q (.panic c) (a.put d v) w->Q (.panic c) a w:=by intro _ _ d _ _ h;cases d <;> exact h):Env P .any l.toArray Q S w0 g listed a w:=Z2 m f hf hs hB hd hn hl hQ hw h
def Nx (Q:Exit->Act->World->Prop) (K:Act->World->Prop):Exit->Act->World->Prop
 | .normal,a,w=>K a w
 | e,a,w=>Q e a w
theorem Z5 {i:Nat} {o:Oper} {a:Act} {w:World} {K:Act->World->Prop} (ho:l[i]? = some o) (hl:LetsOut (Nx Q K)->LetsOut Q) (h:wpList P l.toArray (Nx Q K) [o] a w):wpOp P l.toArray Q i K a w:=by
 unfold wpOp;simp only [List.getElem?_toArray,ho];simp only [wpList] at h;split
 ·rename_i hw;rw [qg hw] at h;refine h.imp (fun h=>?_) (fun ⟨h1,h2⟩=>⟨h1,hl h2⟩);unfold Oper.wp at *;generalize (execOp a.eval o).run P w=r at *;cases r with
  | ok n w' =>
   cases n <;> simp only [Oper.upon] at h ⊢ <;> exact h
  | halt x w'=>cases x <;> simp only [Oper.upon] at h ⊢ <;> exact h
 ·rename_i hw;rw [qf hw] at h;exact h
theorem Xo {K:Act->World->Prop}:LetsOut (Nx Q K)->LetsOut Q:=fun ⟨a,w,h⟩=>⟨a,w,h⟩
theorem jh (rs:List Nat) {f:Nat} {listed:Array Bool} {a:Act} {w:World} (hr:Region.ready .any l.toArray listed=rs) (hne:rs≠[])
  (h:∀ w2,Fr [] w w2->∀ i∈rs,∀ o,l[i]? = some o->wpList P l.toArray (Nx Q (fun a' w'=>Fr S w0 w'/\Env P .any l.toArray Q S w0 f (listed.setIfInBounds i true) a' w')) [o] a w2):Env P .any l.toArray Q S w0 (f+1) listed a w:=by
 intro w2 h2;refine ⟨fun h0=>absurd (hr.symm.trans h0) hne,fun i hi=>?_⟩;exact Dh
theorem qbs (i:Nat) {o:Oper} {f:Nat} {listed listed':Array Bool} {a:Act} {w:World} (hr:Region.ready .any l.toArray listed=[i]) (ho:l[i]? = some o) (hl:listed.setIfInBounds i true=listed')
  (h:∀ w2,Fr [] w w2->wpList P l.toArray (Nx Q (fun a' w'=>Fr S w0 w'/\Env P .any l.toArray Q S w0 f listed' a' w')) [o] a w2):Env P .any l.toArray Q S w0 (f+1) listed a w:=by
 subst hl;refine jh [i] hr Ma fun w2 h2 j hj x hx=>?_
 simp only [List.mem_singleton] at hj;subst hj;rw [ho] at hx;cases hx;exact h w2 h2
theorem eoq (i:Nat) {o:Oper} {f:Nat} {listed listed':Array Bool} {a:Act} {w:World} (h:∀ w2,Fr [] w w2->wpList P l.toArray (Nx Q (fun a' w'=>Fr S w0 w'/\Env P .any l.toArray Q S w0 f listed' a' w')) [o] a w2) (hl:listed.setIfInBounds i true=listed':=by exact rfl) (hr:Region.ready .any l.toArray listed=[i]:=by kernel_rfl) (ho:l[i]? = some o:=by exact rfl):Env P .any l.toArray Q S w0 (f+1) listed a w:=qbs i hr ho hl h
theorem zw {f:Nat} {listed:Array Bool} {a:Act} {w:World} (hr:Region.ready .any l.toArray listed=[]) (h:∀ w2,Fr [] w w2->Q .normal a w2):Env P .any l.toArray Q S w0 f listed a w:=by
 cases f with
 | zero=>exact fun w2 h2=>⟨hr,h w2 h2⟩
 | succ f=>exact fun w2 h2=>⟨fun _=>h w2 h2,fun i hi=>by rw [hr] at hi;cases hi⟩
theorem qo {K:Act->World->Prop} {a:Act} {w:World} (h:K a w):Nx Q K .normal a w:=h
end
end Go.Proofs.YtbddhncgemeohaaGreatDoor.Ar
namespace Go.Proofs.YtbddhncgemeohaaGreatDoor.Ar
open Go.RowKit Go.Maps
theorem q7n:Keyed Tryz.prog 3:=int_keyed Tryz.underlying3
def Holds (D:DataW Unit) (g:Int->Option Int):Prop :=
 IsMap D/\∀ k:Int,Maps.has D (.int .i64 k)=(g k).isSome/\∀ v,g k=some v->∀ zd,D.atKey (.int .i64 k) zd = .lit (.int .i64 v)
def q62 (w:World) (b n:Nat) (g:Int->Option Int):Prop:=∃ D,w.ownsMap Tryz.prog 3 (plainElem (H:=Unit) Tryz.prog 3) b n D/\Holds D g
theorem q1k:Holds (.map []) (fun _=>none):=⟨isMap_empty,fun k=>⟨rfl,fun v h=>by cases h⟩⟩
theorem Holds.put {D:DataW Unit} {g:Int->Option Int} (h:Holds D g) (k v:Int):Holds (D.put (.int .i64 k) (.lit (.int .i64 v))) (fun x=>if x=k then some v else g x):=by
 obtain ⟨hm,hg⟩:=h;refine ⟨hm.put _ _,fun x=>?_⟩;by_cases hx:x=k
 ·subst hx;have hk:WideAt.IsKeyLit (.int .i64 x):=trivial;exact ⟨by rw [has_put_same hm hk];simp,fun u hu zd=>by simp at hu;subst hu;exact atKey_put_same hm hk _ _⟩
 ·have hne:(Lit.int .i64 x)≠Lit.int .i64 k:=fun e=>hx (by cases e;rfl)
  simp only [qf hx];rw [has_put_other hne];exact ⟨(hg x).1,fun u hu zd=>by rw [atKey_put_other hne];exact (hg x).2 u hu zd⟩
theorem q62.made (w:World):q62 (w.alloc (.map #[] 0)) w.heap.size 0 (fun _=>none):=⟨_,World.ownsMap_made w _ _ _,q1k⟩
theorem q62.kept {w w':World} {b n:Nat} {g:Int->Option Int} {S:List Nat} (h:q62 w b n g) (f:Fr S w w') (hb:b∉S):q62 w' b n g:=by obtain ⟨D,⟨es,clock,h1,h2⟩,hD⟩:=h;exact ⟨D,⟨es,clock,f.heap h1 hb,h2⟩,hD⟩
theorem Fr.grownAt {w w':World} {b:Nat} (h:w.grownBy w' (some b)):Fr [b] w w':=⟨h.os,h.tape,h.output,h.size,fun k hk hn=>h.block k hk (fun e=>hn (by cases e;simp))⟩
theorem q44 {w:World} {b n:Nat} {g:Int->Option Int} (h:q62 w b n g) (hn:n<maxLen) (k v:Int) (hk:(Lit.int .i64 k).wf=true) (hv:(Lit.int .i64 v).wf=true) :
  ∃ w',(Instr.mapUpdate 80 (.map (some b)) (.int .i64 k) (.int .i64 v)).run Tryz.prog w = .ok () w'/\q62 w' b (n+1) (fun x=>if x=k then some v else g x)/\Fr [b] w w':=by
 obtain ⟨D,h1,hD⟩:=h;obtain ⟨w',r1,r2,r3⟩:=h1.update q7n Tryz.underlying80 hn (keyOf_int_mk Tryz.underlying3 hk) (plainElem_int Tryz.underlying3 hv);exact ⟨w',r1,⟨_,r2,hD.put k v⟩,Fr.grownAt r3⟩
theorem x8 {w:World} {ops:Array Oper} {rest:List Oper} {o:Oper} {a:Act} {Q:Exit->Act->World->Prop}
  (hg:o.guard=none) (m x y:Operand) (hop:o.op=Op.insert 80 m x y) {b n:Nat} {g:Int->Option Int} (k v:Int)
  (hm:a.eval m = .map (some b)) (hx:a.eval x = .int .i64 k) (hy:a.eval y = .int .i64 v) (h:q62 w b n g) (hn:n<maxLen) (hk:(Lit.int .i64 k).wf=true) (hv:(Lit.int .i64 v).wf=true)
  (hK:∀ w',q62 w' b (n+1) (fun x=>if x=k then some v else g x)->Fr [b] w w'->wpList Tryz.prog ops Q rest (a.put o.dst undef) w') :
  wpList Tryz.prog ops Q (o :: rest) a w:=by
 refine wpList_plain hg fun K' hK'=>?_
 obtain ⟨w',hrun,r1,r2⟩:=q44 h hn k v hk hv;unfold Oper.wp;simp [execOp,hop,hm,hx,hy,hrun,Result.andThen];exact hK' _ _ (hK w' r1 r2)
end Go.Proofs.YtbddhncgemeohaaGreatDoor.Ar
namespace Go.Proofs.YtbddhncgemeohaaGreatDoor.Og
open Go.RowKit Go.Maps Ar
def sv (k f:Int):Value:=.agg #[.int .i64 k,.int .i64 f]
def sl (k f:Int):Lit:=.string (keyBytes [.int .i64 k,.int .i64 f])
def most (k f:Int):Option Int :=
 if k=1/\f=0 then some 63 else if k=1/\f=1 then some 1048576 else if k=2/\f=0 then some 63 else if k=3/\f=0 then some 63 else if k=4/\f=0 then some 63 else if k=4/\f=2 then some 63 else none
end Go.Proofs.YtbddhncgemeohaaGreatDoor.Og
namespace Go.Proofs.YtbddhncgemeohaaGreatDoor.Ar
open Go.RowKit
structure Acc where
 kind:Int
 at_:Int
 old:Int
 new:Int
 ok:Bool
structure St where
 l:List Int
 n:Int
 a:Acc
def inc (n:Int):Int:=wrap64 (n+1)
def q05 (l:List Int) (i:Int):Bool:=decide (0<=i) && decide (i<l.length)
def nth (l:List Int) (k:Nat):Int:=l.getD k 0
def qx (l:List Int) (i:Int):Int:=if q05 l i=true then nth l i.toNat else 0
def vg (l:List Int) (i v:Int):List Int:=if q05 l i=true then l.set i.toNat v else l
theorem q1a {l:List Int} {k:Nat} (h:k<l.length):q05 l k=true:=by simp [q05];omega
theorem Zo (l:List Int) (i:Int):(∃ k:Nat,i=k/\k<l.length/\q05 l i=true)\/((i<0\/l.length<=i)/\q05 l i=false):=by
 by_cases h:0<=i/\i<l.length
 ·obtain ⟨k,rfl⟩:=Int.eq_ofNat_of_zero_le h.1;exact .inl ⟨k,rfl,by omega,q1a Ly⟩
 ·refine .inr ⟨by omega,?_⟩;simp only [q05,Bool.and_eq_false_iff,decide_eq_false_iff_not];omega
theorem U6 {l:List Int} {k:Nat} (h:k<l.length):qx l k=nth l k:=by rw [qx,qg (q1a h)];rfl
theorem q5g {l:List Int} {i:Int} (h:q05 l i=false):qx l i=0:=by rw [qx,qf Nl]
theorem Tc {l:List Int} {k:Nat} (v:Int) (h:k<l.length):vg l k v=l.set k v:=by rw [vg,qg (q1a h)];rfl
theorem q7j {l:List Int} {i:Int} (v:Int) (h:q05 l i=false):vg l i v=l:=by rw [vg,qf Nl]
theorem xd (l:List Int) (i v:Int):(vg l i v).length=l.length:=by unfold vg;split <;> simp
theorem Jh {l:List Int} {k:Nat} (v:Int) (h:k<l.length) (i:Nat):nth (vg l k v) i=if i=k then v else nth l i:=by
 rw [Tc v h,nth,nth,List.getD_eq_getElem?_getD,List.getElem?_set];by_cases e:k=i
 ·subst e;simp [h]
 ·rw [qf e,qf (Ne.symm e),List.getD_eq_getElem?_getD]
def St.note (s:St) (kind i was:Int) (ok:Bool):St:=⟨s.l,inc s.n,⟨kind,i,was,qx s.l i,ok⟩⟩
def St.vg (s:St) (i v:Int):St:=⟨Ar.vg s.l i v,s.n,s.a⟩
def St.load (s:St) (i:Int):St:=s.note 1 i (qx s.l i) false
def St.store (s:St) (i v:Int):St:=(s.vg i v).note 2 i (qx s.l i) false
def St.can (s:St) (i old:Int):Bool:=q05 s.l i && (qx s.l i == old)
def St.swap (s:St) (i old v:Int):St:=if s.can i old=true then (s.vg i v).note 3 i (qx s.l i) true else s.note 3 i (qx s.l i) false
def St.add (s:St) (i v:Int):St:=(s.vg i (wrap64 (qx s.l i+v))).note 4 i (qx s.l i) false
def q6x (s:St) (q cap:Nat):Array Value :=
 #[.int .i64 s.l.length,.slice (some ⟨q,0,none⟩) ((s.l.length+63) / 64) cap,.int .i64 s.n,.int .i64 s.a.kind,.int .i64 s.a.at_,.int .i64 s.a.old,.int .i64 s.a.new,.bool s.a.ok]
structure Ar (w:World) (p q:Nat) (s:St):Prop where
 ne:p≠q
 lo:1<=s.l.length
 hi:s.l.length<=20000
 mem:∃ cap c,w.heap[p]? = some (.cells (q6x s q cap) 75 (0,0))/\(s.l.length+63) / 64<=cap/\cap<=maxLen /\
  w.heap[q]? = some (.cells c 72 (0,0))/\c.size=cap * 64/\(∀ u∈c.toList.take ((s.l.length+63) / 64 * 64),u.oneCell'=true)/\∀ i,i<s.l.length->c[i]? = some (.int .i64 (nth s.l i))
theorem one_set {c:Array Value} {i n:Nat} {v:Value} (h:∀ u∈c.toList.take n,u.oneCell'=true) (hv:v.oneCell'=true):∀ u∈(c.setIfInBounds i v).toList.take n,u.oneCell'=true:=by
 intro u hu;rw [Array.toList_setIfInBounds,List.take_set] at hu;rcases List.mem_or_eq_of_mem_set hu with h1 | rfl
 ·exact h u h1
 ·exact hv
theorem Ar.lt {w:World} {p q:Nat} {s:St} (h:Ar w p q s):p<w.heap.size/\q<w.heap.size:=by obtain ⟨ne,lo,hi,cap,c,hp,hc1,hc2,hq,hs,hone,hc⟩:=h;exact Gi
theorem Ar.kept {w w':World} {p q:Nat} {s:St} {S:List Nat} (h:Ar w p q s) (f:Fr S w w') (hp:p∉S:=by simp) (hq:q∉S:=by simp):Ar w' p q s:=by have hlt:=h.lt;obtain ⟨ne,lo,hi,cap,c,h1,h2,h3,h4,h5,h5',h6⟩:=h;exact ⟨ne,lo,hi,cap,c,(f.block p hlt.1 hp).trans h1,h2,h3,(f.block q hlt.2 hq).trans h4,h5,h5',h6⟩
theorem q07 {k:IntKind} {a b:Int} {w:World} (h:a=b):Ending.returned (.int k a) = .returned (.int k b)/\w=w:=⟨by rw [h],rfl⟩
theorem Wo (w:World) (p q:Nat) (s:St) (k:Nat) (h:Ar w p q s) (hk:k<s.l.length) :
  Calls Tryz.prog 33 #[.pointer (some ⟨p,0,none⟩),.int .i64 k] w fun e w'=>e = .returned (.bool true)/\w=w':=by
 obtain ⟨ne,lo,hi,cap,c,hp,hc1,hc2,hq,hs,hone,hc⟩:=h;have h0:w.cell? ⟨p,0,none⟩=some (.int .i64 s.l.length):=by rw [cell_of_row w p 0 _ _ _ hp];rfl
 clear hp hq hone hc;go_enter Tryz.func33,Tryz.ntmps33;exact Bu
theorem Yu (w:World) (p q:Nat) (s:St) (k:Int) (h:Ar w p q s) (hk:k<0\/s.l.length<=k) :
  Calls Tryz.prog 33 #[.pointer (some ⟨p,0,none⟩),.int .i64 k] w fun e w'=>e = .returned (.bool false)/\w=w':=by
 obtain ⟨ne,lo,hi,cap,c,hp,hc1,hc2,hq,hs,hone,hc⟩:=h;have h0:w.cell? ⟨p,0,none⟩=some (.int .i64 s.l.length):=by rw [cell_of_row w p 0 _ _ _ hp];rfl
 clear hp hq hone hc;by_cases hk0:k<0
 ·clear hk;go_enter Tryz.func33,Tryz.ntmps33;exact Bu
 ·have hf:decide (k<(s.l.length:Int))=false:=by simp;omega
  have hk1:0<=k:=by omega
  clear hk hk0;go_enter Tryz.func33,Tryz.ntmps33;go_wp2;go_ret;exact ⟨by simp,rfl⟩
theorem ja (w:World) (p q:Nat) (s:St) (i:Int) (h:Ar w p q s) :
  Calls Tryz.prog 11 #[.pointer (some ⟨p,0,none⟩),.int .i64 i] w fun e w'=>e = .returned (.int .i64 (qx s.l i))/\w=w':=by
 have h':=h;obtain ⟨ne,lo,hi,cap,c,hp,hc1,hc2,hq,hs,hone,hc⟩:=h;have h0:w.cell? ⟨p,1,none⟩=some (.slice (some ⟨q,0,none⟩) ((s.l.length+63) / 64) cap):=by rw [cell_of_row w p 1 _ _ _ hp];rfl
 rcases Zo s.l i with ⟨k,rfl,hk,e⟩ | ⟨hk,e⟩
 ·have h1:w.cell? ⟨q,k / 64 * 64+k % 64,none⟩=some (.int .i64 (nth s.l k)):=by rw [cell_of_row w q _ _ _ _ hq,show k / 64 * 64+k % 64=k by omega];exact hc k hk
  rw [U6 hk];clear hp hq hone hc e;go_enter Tryz.func11,Tryz.ntmps11;go_wp2_with (go_at_call 33;refine (Wo _ p q s k h' hk).mono ?_;rintro e w' ⟨rfl,rfl⟩);go_ret;exact ⟨rfl,rfl⟩
 ·rw [q5g e];clear hp hq hone hc e;go_enter Tryz.func11,Tryz.ntmps11;go_wp2_with (go_at_call 33;refine (Yu _ p q s i h' hk).mono ?_;rintro e w' ⟨rfl,rfl⟩);go_ret;exact ⟨rfl,rfl⟩
theorem Q3 (w:World) (p q:Nat) (s:St) (i v:Int) (h:Ar w p q s) :
  Calls Tryz.prog 19 #[.pointer (some ⟨p,0,none⟩),.int .i64 i,.int .i64 v] w fun e w'=>e = .returned (.tuple #[])/\Ar w' p q (s.vg i v)/\Fr [q] w w':=by
 have h':=h;obtain ⟨ne,lo,hi,cap,c,hp,hc1,hc2,hq,hs,hone,hc⟩:=h;have h0:w.cell? ⟨p,1,none⟩=some (.slice (some ⟨q,0,none⟩) ((s.l.length+63) / 64) cap):=by rw [cell_of_row w p 1 _ _ _ hp];rfl
 rcases Zo s.l i with ⟨k,rfl,hk,e⟩ | ⟨hk,e⟩
 ·have h1:w.cell? ⟨q,k / 64 * 64+k % 64,none⟩=some (.int .i64 (nth s.l k)):=by rw [cell_of_row w q _ _ _ _ hq,show k / 64 * 64+k % 64=k by omega];exact hc k hk
  have h2:w.frozen? ⟨q,k / 64 * 64+k % 64,none⟩=false:=frozen_of_row _ _ _ _ _ hq
  have A1:Ar (w.setCell ⟨q,k / 64 * 64+k % 64,none⟩ (.int .i64 v)) p q (s.vg k v):=by
   refine ⟨ne,by simp [St.vg,xd];exact lo,by simp [St.vg,xd];exact hi,cap,_,?_,by simpa [St.vg,xd] using hc1,hc2,heap_setCell_same _ _ _ _ _ _ hq,by simpa using hs,by simp only [St.vg,xd];exact one_set hone rfl,?_⟩
   ·rw [heap_setCell_other _ _ _ _ ne];simpa [q6x,St.vg,xd] using hp
   ·intro j hj;rw [show k / 64 * 64+k % 64=k by omega];exact Bz
  have F1:Fr [q] w (w.setCell ⟨q,k / 64 * 64+k % 64,none⟩ (.int .i64 v)):=Fr.setCell _ Ma;clear hp hq hone hc e;go_enter Tryz.func19,Tryz.ntmps19;go_wp2_with (go_at_call 33;refine (Wo _ p q s k h' hk).mono ?_;rintro e w' ⟨rfl,rfl⟩);go_end0;exact ⟨rfl,A1,F1⟩
 ·have A1:Ar w p q (s.vg i v):=by rw [show s.vg i v=s by simp [St.vg,q7j v e]];exact h'
  clear hp hq hone hc e;go_enter Tryz.func19,Tryz.ntmps19;go_wp2_with (go_at_call 33;refine (Yu _ p q s i h' hk).mono ?_;rintro e w' ⟨rfl,rfl⟩);go_end0;exact ⟨rfl,A1,Fr.refl _ _⟩
theorem Z4 (w:World) (p q:Nat) (s:St) (kind i was:Int) (ok:Bool) (h:Ar w p q s) :
  Calls Tryz.prog 56 #[.pointer (some ⟨p,0,none⟩),.int .i64 kind,.int .i64 i,.int .i64 was,.bool ok] w fun e w'=>e = .returned (.tuple #[])/\Ar w' p q (s.note kind i was ok)/\Fr [p] w w':=by
 have h':=h;obtain ⟨ne,lo,hi,cap,c,hp,hc1,hc2,hq,hs,hone,hc⟩:=h;have h2:w.cell? ⟨p,2,none⟩=some (.int .i64 s.n):=by rw [cell_of_row w p 2 _ _ _ hp];rfl
 have h3:w.cell? ⟨p,3,none⟩=some (.int .i64 s.a.kind):=by rw [cell_of_row w p 3 _ _ _ hp];rfl
 have h4:w.cell? ⟨p,4,none⟩=some (.int .i64 s.a.at_):=by rw [cell_of_row w p 4 _ _ _ hp];rfl
 have h5:w.cell? ⟨p,5,none⟩=some (.int .i64 s.a.old):=by rw [cell_of_row w p 5 _ _ _ hp];rfl
 have h6:w.cell? ⟨p,6,none⟩=some (.int .i64 s.a.new):=by rw [cell_of_row w p 6 _ _ _ hp];rfl
 have h7:w.cell? ⟨p,7,none⟩=some (.bool s.a.ok):=by rw [cell_of_row w p 7 _ _ _ hp];rfl
 have hf:∀ j,w.frozen? ⟨p,j,none⟩=false:=fun j=>frozen_of_row _ _ _ _ _ hp
 have hf2:=hf 2;have hf3:=hf 3;have hf4:=hf 4;have hf5:=hf 5;have hf6:=hf 6;have hf7:=hf 7
 have A1:Ar (w.setCell ⟨p,2,none⟩ (.int .i64 (wrap64 (s.n+1)))) p q ⟨s.l,inc s.n,s.a⟩:=by refine ⟨ne,lo,hi,cap,c,heap_setCell_same _ _ _ _ _ _ hp,hc1,hc2,?_,hs,hone,hc⟩;exact I3
 have A2:Ar ((((((w.setCell ⟨p,2,none⟩ (.int .i64 (wrap64 (s.n+1)))).setCell ⟨p,3,none⟩ (.int .i64 kind)).setCell ⟨p,4,none⟩ (.int .i64 i)).setCell ⟨p,5,none⟩ (.int .i64 was)).setCell ⟨p,6,none⟩ (.int .i64 (qx s.l i))).setCell ⟨p,7,none⟩ (.bool ok)) p q (s.note kind i was ok):=by refine ⟨ne,lo,hi,cap,c,heap_setCell_same _ _ _ _ _ _ (heap_setCell_same _ _ _ _ _ _ (heap_setCell_same _ _ _ _ _ _ (heap_setCell_same _ _ _ _ _ _ (heap_setCell_same _ _ _ _ _ _ (heap_setCell_same _ _ _ _ _ _ hp))))),hc1,hc2,?_,hs,hone,hc⟩;exact Hu
 have F2:Fr [p] w ((((((w.setCell ⟨p,2,none⟩ (.int .i64 (wrap64 (s.n+1)))).setCell ⟨p,3,none⟩ (.int .i64 kind)).setCell ⟨p,4,none⟩ (.int .i64 i)).setCell ⟨p,5,none⟩ (.int .i64 was)).setCell ⟨p,6,none⟩ (.int .i64 (qx s.l i))).setCell ⟨p,7,none⟩ (.bool ok)) :=
  (((((Fr.setCell _ Ma).setCell' _ Ma).setCell' _ Ma).setCell' _ Ma).setCell' _ Ma).setCell' _ Ma
 clear hf hp hq hone hc;go_enter Tryz.func56,Tryz.ntmps56;go_wp2_with fail;go_wp2_with (go_at_call 11;refine (ja _ p q _ i A1).mono ?_;rintro e w' ⟨rfl,rfl⟩);go_end0;exact ⟨rfl,A2,F2⟩
theorem zl (w:World) (p q:Nat) (s:St) (i:Int) (h:Ar w p q s) :
  Calls Tryz.prog 32 #[.pointer (some ⟨p,0,none⟩),.int .i64 i] w fun e w'=>e = .returned (.int .i64 (qx s.l i))/\Ar w' p q (s.load i)/\Fr [p,q] w w':=by
 go_enter Tryz.func32,Tryz.ntmps32;go_wp2_with (go_at_call 11;refine (ja _ p q _ i h).mono ?_;rintro e w' ⟨rfl,rfl⟩);exact Eh
theorem Yz (w:World) (p q:Nat) (s:St) (h:Ar w p q s) :
  Calls Tryz.prog 14 #[.pointer (some ⟨p,0,none⟩)] w fun e w'=>e = .returned (.int .i64 s.n)/\w=w':=by
 obtain ⟨ne,lo,hi,cap,c,hp,hc1,hc2,hq,hs,hone,hc⟩:=h;have h0:w.cell? ⟨p,2,none⟩=some (.int .i64 s.n):=by rw [cell_of_row w p 2 _ _ _ hp];rfl
 clear hp hq hone hc;go_enter Tryz.func14,Tryz.ntmps14;exact Bu
def St.fresh (n:Nat):St:=⟨List.replicate n 0,0,⟨0,0,0,0,false⟩⟩
def Made (w:World) (s:St) (e:Ending) (w':World):Prop:=∃ p q,e = .returned (.pointer (some ⟨p,0,none⟩))/\w.heap.size<=p/\w.heap.size<=q/\Ar w' p q s/\Fr [] w w'
def Kw:Value:=.agg (Array.replicate 64 (.int .i64 0))
theorem qa1:(Tryz.prog.info? 72).map (fun i=>(i.zero,i.size,i.bytes))=some (some Kw,64,512):=by kernel_rfl
theorem Kb (n:Nat):∀ j,j<n->(madeCells Kw.cells n).toList[j]? = some (.int .i64 0):=by intro j hj;have h:j % 64<64:=Nat.mod_lt _ Mg;simp [madeCells,Kw,Value.cells,hj];rw [getElem!_pos _ _ Pz];simp
theorem q92 (n:Nat):∀ u∈(madeCells Kw.cells n).toList,u.oneCell'=true:=by intro u hu;obtain ⟨j,hj,rfl⟩:=List.getElem_of_mem hu;have h:=Kb n j (by simpa [madeCells] using hj);rw [List.getElem?_eq_getElem hj] at h;rw [qj h];rfl
theorem q1m {w w1:World} (n:Nat) (lo:1<=n) (hi:n<=20000) (hown:w1.ownsRow 0 72 64 (.slice (some ⟨w.heap.size,0,none⟩) ((n+63) / 64) ((n+63) / 64)) ((n+63) / 64) (madeCells Kw.cells ((n+63) / 64 * 64)).toList) (hg:w.grownBy w1 none) (hne:w.heap.size<w1.heap.size) :
  Made w (St.fresh n) (.returned (.pointer (some ⟨w1.heap.size,0,none⟩))) (w1.alloc (.cells #[.int .i64 n,.slice (some ⟨w.heap.size,0,none⟩) ((n+63) / 64) ((n+63) / 64),.int .i64 0,.int .i64 0,.int .i64 0,.int .i64 0,.int .i64 0,.bool false] 75)):=by
 refine ⟨w1.heap.size,w.heap.size,rfl,by omega,Nat.le_refl _,?_,(Fr.grown hg).alloc _⟩;obtain ⟨h1,h2⟩:=hown;rcases h2 with ⟨h2,_⟩ | ⟨g,cap,cur,hv,-,hh,hc1,hc2,hsz,htk⟩
 ·cases h2
 ·simp only [Value.slice.injEq,Option.some.injEq,Addr.mk.injEq] at hv;obtain ⟨⟨rfl,-,-⟩,-,rfl⟩:=hv;refine ⟨by omega,by simpa [St.fresh] using lo,by simpa [St.fresh] using hi,(n+63) / 64,cur,?_,by simp [St.fresh],hc2,?_,hsz,?_,?_⟩
  ·rw [Go.heap_alloc_new];simp [q6x,St.fresh]
  ·rw [heap_alloc_old _ _ hne];exact hh
  ·have e0:cur.toList=(madeCells Kw.cells ((n+63) / 64 * 64)).toList:=by rw [<- htk,List.take_of_length_le (by simp [hsz])]
   intro u hu;exact q92 _ u (e0 ▸ List.mem_of_mem_take hu)
  ·intro i hi';simp only [St.fresh,List.length_replicate] at hi'
   have e1:cur.toList[i]? = (madeCells Kw.cells ((n+63) / 64 * 64)).toList[i]?:=by rw [<- htk,List.getElem?_take_of_lt Ly]
   rw [Kb _ _ Ly] at e1;exact Ei
theorem q26 {w1:World} {b:Nat} {E:TypeId} {sz g n cap k:Nat} {xs:List Value} (h:w1.ownsRow b E sz (.slice (some ⟨g,0,none⟩) n cap) k xs):g<w1.heap.size:=by
 rcases h.2 with ⟨h,_⟩ | ⟨g,_,_,hv,_,hh,_⟩
 ·cases h
 ·cases hv;exact (Array.getElem?_eq_some_iff.1 hh).1
theorem q2f (n:Nat) (i:Int) (lo:1<=n) (hi:n<=20000) (hn:(i<1/\n=1)\/(1<=i/\i<=20000/\i=n)\/(20000<i/\n=20000)) (w:World) :
  Calls Tryz.prog 28 #[.int .i64 i] w (Made w (St.fresh n)):=by
 obtain ⟨i0,h0,hz0,hz1,hz2⟩:=info_parts qa1;rcases hn with ⟨h1,rfl⟩ | ⟨h1,h2,rfl⟩ | ⟨h1,rfl⟩
 ·go_enter Tryz.func28,Tryz.ntmps28;go_wp2_with (at_make;refine wpList_make_full _ rfl _ _ 73 rfl 0 72 i0 Kw 64 Tryz.underlying73 h0 hz0 hz1 _ _ _ _ 1 rfl rfl rfl rfl (by rw [hz2];decide) Mg (Nat.zero_le _) ?_;intro w1 hown hg;have hM:=q1m 1 lo hi hown hg (q26 hown);clear hown);go_ret;exact hM
 ·have e1:((n:Int)+64 - 1) / 64=(((n+63) / 64:Nat):Int):=by omega
  go_enter Tryz.func28,Tryz.ntmps28;go_wp2_with (at_make;refine wpList_make_full _ rfl _ _ 73 rfl 0 72 i0 Kw 64 Tryz.underlying73 h0 hz0 hz1 _ _ _ _ ((n+63) / 64) rfl rfl e1 e1 (by rw [hz2];omega) O6 (Nat.zero_le _) ?_;intro w1 hown hg;have hM:=q1m n lo hi hown hg (q26 hown);clear hown);go_ret;exact hM
 ·go_enter Tryz.func28,Tryz.ntmps28;go_wp2_with (at_make;refine wpList_make_full _ rfl _ _ 73 rfl 0 72 i0 Kw 64 Tryz.underlying73 h0 hz0 hz1 _ _ _ _ 313 rfl rfl rfl rfl (by rw [hz2];decide) Mg (Nat.zero_le _) ?_;intro w1 hown hg;have hM:=q1m 20000 lo hi hown hg (q26 hown);clear hown);go_ret;exact hM
end Go.Proofs.YtbddhncgemeohaaGreatDoor.Ar
namespace Go.Proofs.YtbddhncgemeohaaGreatDoor.Pl
open Go.RowKit Ar
theorem q85 (t c wd:Int) (w:World) :
  Calls Tryz.prog 21 #[.int .i64 t,.int .i64 c,.int .i64 wd] w fun e w'=>e = .returned (.agg #[.int .i64 t,.int .i64 c,.int .i64 wd,.int .i64 1000])/\Fr [] w w':=by
 go_enter Tryz.func21,Tryz.ntmps21;go_wp2;exact bodyPost_ret (v:=.agg #[.int .i64 t,.int .i64 c,.int .i64 wd,.int .i64 1000]) (by simp [results,Tryz.results21,go_sem]) rfl ⟨rfl,(Fr.refl _ _).alloc _⟩
theorem X0 (t c wd v:Int) (h1:1<=c) (h2:c<=16) (w:World) :
  Calls Tryz.prog 78 #[.agg #[.int .i64 t,.int .i64 c,.int .i64 wd,.int .i64 v]] w fun e w'=>e = .returned (.int .i64 (7+3 * c))/\Fr [] w w':=by
 go_enter Tryz.func78,Tryz.ntmps78;exact Av
theorem Q5 (t:Int) (h1:0<=t) (h2:t<=8) (w:World) :
  Calls Tryz.prog 76 #[.int .i64 t] w fun e w'=>e = .returned (.int .i64 (3+t))/\w=w':=by
 go_enter Tryz.func76,Tryz.ntmps76;exact Bu
theorem Vy (t c wd v:Int) (h1:1<=t) (h2:t<=8) (w:World) :
  Calls Tryz.prog 52 #[.agg #[.int .i64 t,.int .i64 c,.int .i64 wd,.int .i64 v]] w fun e w'=>e = .returned (.int .i64 (3+t))/\Fr [] w w':=by
 go_enter Tryz.func52,Tryz.ntmps52;go_wp2_with (go_at_call 76;refine (Q5 _ Ly h2 _).mono ?_;rintro e w' ⟨rfl,rfl⟩);go_ret;exact ⟨rfl,(Fr.refl _ _).alloc _⟩
theorem Qb (t c wd v:Int) (h1:1<=t) (h2:t<=8) (w:World) :
  Calls Tryz.prog 30 #[.agg #[.int .i64 t,.int .i64 c,.int .i64 wd,.int .i64 v]] w fun e w'=>e = .returned (.int .i64 (3+t+4))/\Fr [] w w':=by
 go_enter Tryz.func30,Tryz.ntmps30;exact Ll
theorem Zj (t c wd v:Int) (h1:1<=t) (h2:t<=8) (w:World) :
  Calls Tryz.prog 23 #[.agg #[.int .i64 t,.int .i64 c,.int .i64 wd,.int .i64 v]] w fun e w'=>e = .returned (.int .i64 (3+t+4+7))/\Fr [] w w':=by
 go_enter Tryz.func23,Tryz.ntmps23;exact Lj
theorem xj {w:World} {b:Nat} {t:TypeId} {x0 x1 x2 x3:Value} (h:w.heap[b]? = some (.cells #[x0,x1,x2,x3] t (0,0))) :
  w.cell? ⟨b,0,none⟩=some x0/\w.cell? ⟨b,1,none⟩=some x1/\w.cell? ⟨b,2,none⟩=some x2/\w.cell? ⟨b,3,none⟩=some x3 :=
 ⟨by rw [cell_of_row _ _ _ _ _ _ h];rfl,by rw [cell_of_row _ _ _ _ _ _ h];rfl,by rw [cell_of_row _ _ _ _ _ _ h];rfl,by rw [cell_of_row _ _ _ _ _ _ h];rfl⟩
theorem Yj (t c wd v:Int) (h1:1<=t) (h2:t<=8) (h3:1<=c) (h4:c<=16) (w:World) :
  Calls Tryz.prog 58 #[.agg #[.int .i64 t,.int .i64 c,.int .i64 wd,.int .i64 v]] w fun e w'=>e = .returned (.int .i64 (21+t+3 * c))/\Fr [] w w':=by
 go_enter Tryz.func58,Tryz.ntmps58;go_wp2_with fail;obtain ⟨c0,c1,c2,c3⟩:=xj (Go.heap_alloc_new w (.cells #[.int .i64 t,.int .i64 c,.int .i64 wd,.int .i64 v] 23));have k0:=qc c0;have k1:=qc c1;have k2:=qc c2;have k3:=qc c3;clear c0 c1 c2 c3;refine wiq ?_;repeat (go_big_quiet_step ((first | (go_at_call 23;exact Calls.in_ (Zj _ _ _ _ h1 h2 _)) | (go_at_call 78;exact Calls.in_ (X0 _ _ _ _ h3 h4 _)))))
 exact Eo
theorem Vu (t c wd v k:Int) (h1:1<=t) (h2:t<=8) (h3:0<=k) (h4:k<=63) (w:World) :
  Calls Tryz.prog 29 #[.agg #[.int .i64 t,.int .i64 c,.int .i64 wd,.int .i64 v],.int .i64 k] w fun e w'=>e = .returned (.int .i64 (3+t+k / 16))/\Fr [] w w':=by
 go_enter Tryz.func29,Tryz.ntmps29;exact Ll
theorem ku (n a b:Int) (h1:a<=n) (h2:n<=b) (w:World) :
  Calls Tryz.prog 57 #[.int .i64 n,.int .i64 a,.int .i64 b] w fun e w'=>e = .returned (.bool true)/\w=w':=by
 exact Lt
theorem Zc (n a b:Int) (h:n<a\/b<n) (w:World) :
  Calls Tryz.prog 57 #[.int .i64 n,.int .i64 a,.int .i64 b] w fun e w'=>e = .returned (.bool false)/\w=w':=by
 by_cases h1:n<a
 ·clear h;exact Lt
 ·have h2:b<n:=by omega
  have h3:a<=n:=by omega
  have hf:decide (n<=b)=false:=by simp;omega
  clear h h1 h2;exact Lt
def qdz (n:Int):Value:=if n=0 then .nilIface else .iface 96 (.int .i64 n)
def form (t c wd v:Int):Bool:=decide (1<=t) && decide (t<=8) && decide (t+2<=c) && decide (c<=16) && decide (1<=v) && decide (v<=1048576) && decide (1<=wd) && decide (wd<=20000)
def code (t c wd v:Int):Int:=if form t c wd v=true then (if 21+t+3 * c<=wd then 0 else 14) else 10
theorem Zx {t c wd v:Int}:form t c wd v=true↔(1<=t/\t<=8/\t+2<=c/\c<=16/\1<=v/\v<=1048576/\1<=wd/\wd<=20000):=by simp only [form,Bool.and_eq_true,decide_eq_true_eq,and_assoc]
theorem qbi (t c wd v:Int) (h:t<1\/8<t\/c<t+2\/16<c\/v<1\/1048576<v\/wd<1\/20000<wd) (w:World) :
  Calls Tryz.prog 41 #[.agg #[.int .i64 t,.int .i64 c,.int .i64 wd,.int .i64 v]] w fun e w'=>e = .returned (.iface 96 (.int .i64 10))/\Fr [] w w':=by
 by_cases hh:t<1\/8<t
 ·clear h;have F:=Zc t 1 8 hh;have H:=qb F;clear F hh;go_enter Tryz.func41,Tryz.ntmps41;exact Lb
 ·have T:=qb (ku t 1 8 Ly Ly);have t1:1<=t:=by omega
  have t2:t<=8:=by omega
  by_cases hc:c<t+2\/16<c
  ·have H:=qb (Zc c (t+2) 16 hc);clear h hh hc;go_enter Tryz.func41,Tryz.ntmps41;go_wp2_with fail;refine (T.out _).mono ?_;rintro e w1 ⟨rfl,rfl⟩;exact Lb
  ·have C:=qb (ku c (t+2) 16 Ly Ly);by_cases hv:v<1\/1048576<v
   ·have H:=qb (Zc v 1 1048576 hv);clear h hh hc hv;go_enter Tryz.func41,Tryz.ntmps41;go_wp2_with fail;refine (T.out _).mono ?_;rintro e w1 ⟨rfl,rfl⟩;go_wp2_with fail;refine (C.out _).mono ?_;rintro e w1 ⟨rfl,rfl⟩;exact Lb
   ·have V:=qb (ku v 1 1048576 Ly Ly);have H:=qb (Zc wd 1 20000 Ly);clear h hh hc hv;go_enter Tryz.func41,Tryz.ntmps41;go_wp2_with fail;refine (T.out _).mono ?_;rintro e w1 ⟨rfl,rfl⟩;go_wp2_with fail;refine (C.out _).mono ?_;rintro e w1 ⟨rfl,rfl⟩;go_wp2_with fail;refine (V.out _).mono ?_;rintro e w1 ⟨rfl,rfl⟩;exact Lb
theorem qbq (t c wd v:Int) (h:form t c wd v=true) (w:World) :
  Calls Tryz.prog 41 #[.agg #[.int .i64 t,.int .i64 c,.int .i64 wd,.int .i64 v]] w fun e w'=>e = .returned (qdz (if 21+t+3 * c<=wd then 0 else 14))/\Fr [] w w':=by
 obtain ⟨t1,t2,c1,c2,v1,v2,w1,w2⟩:=Zx.1 h;have T:=qb (ku t 1 8 t1 t2);have C:=qb (ku c (t+2) 16 c1 c2);have V:=qb (ku v 1 1048576 v1 v2);have W:=qb (ku wd 1 20000 w1 w2);have TP:=qb (Yj t c wd v t1 t2 Ly c2);clear h c1;by_cases hf:21+t+3 * c<=wd
 all_goals
  first | rw [qg hf] | rw [qf hf]
  go_enter Tryz.func41,Tryz.ntmps41
  go_wp2_with fail
  refine (T.out _).mono ?_;rintro e w1 ⟨rfl,rfl⟩
  go_wp2_with fail
  refine (C.out _).mono ?_;rintro e w1 ⟨rfl,rfl⟩
  go_wp2_with fail
  refine (V.out _).mono ?_;rintro e w1 ⟨rfl,rfl⟩
  go_wp2_with fail
  refine (W.out _).mono ?_;rintro e w1 ⟨rfl,rfl⟩
  go_wp2_with fail
  obtain ⟨c0,c1,c2,c3⟩:=xj (Go.heap_alloc_new w (.cells #[.int .i64 t,.int .i64 c,.int .i64 wd,.int .i64 v] 23))
  have k0:=qc c0
  have k1:=qc c1
  have k2:=qc c2
  have k3:=qc c3
  clear c0 c1 c2 c3
  refine wiq ?_
  repeat (go_big_quiet_step ((go_at_call 58;exact Calls.in_ (TP.out _))))
  refine wpQuiet_nil ?_
  intro w1 F1
  have G:=((Fr.refl [] w).alloc _).trans F1
  clear F1
  go_wp2
  go_ret
  exact ⟨rfl,G⟩
theorem qdc (t c wd v:Int) (w:World) :
  Calls Tryz.prog 41 #[.agg #[.int .i64 t,.int .i64 c,.int .i64 wd,.int .i64 v]] w fun e w'=>e = .returned (qdz (code t c wd v))/\Fr [] w w':=by
 cases h:form t c wd v
 ·have hn:¬ form t c wd v=true:=by simp [h]
  rw [Zx] at hn;rw [code,qf Nl];exact qbi t c wd v Ly w
 ·rw [code,qg h];exact qbq t c wd v h w
end Go.Proofs.YtbddhncgemeohaaGreatDoor.Pl
