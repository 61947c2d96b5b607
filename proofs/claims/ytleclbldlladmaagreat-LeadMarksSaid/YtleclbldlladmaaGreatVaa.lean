/- Parts. -/
import Derived.BigQuiet
import Derived.Deep.QuietTactic
import Derived.Handy
import Derived.Laws.BitsAllLaws
import Derived.Lib.Hide
import Derived.StillTail
import Derived.Test.YtleclbldlladmaaGreatRows
import Derived.WalkArith
import Derived.WalkKit
import Derived.WalkLawsBesides
namespace Go.Proofs.YtleclbldlladmaaGreat
theorem Mt {p:Prop} (h:p:=by rintro e w' ⟨rfl,F⟩;exact ⟨rfl,⟨x.lv,Ob.up h F,hs.up F,.inl rfl⟩,hA.kept F,F.mono⟩):p:=h
theorem Mf {p:Prop} (h:p:=by first | cases e | (simp only at e;rw [em] at e;cases e) | (rw [em] at e;cases e)):p:=h
theorem Mj {p:Prop} (h:p:=by first | exact hx.m z e | (simp only at e;rw [em] at e;cases e) | cases e):p:=h
theorem Ml {p:Prop} (h:p:=by intro k hk;simp at hk ⊢;rcases hk with h | h | h | h <;> simp [h]):p:=h
theorem Nc {p:Prop} (h:p:=by intro k hk;simp at hk ⊢;rcases hk with rfl | rfl | rfl <;> simp):p:=h
theorem Mv {p:Prop} (h:p:=by simp only [List.mem_cons,List.mem_append];exact .inr (.inr hk)):p:=h
theorem Ng {p:Prop} (h:p:=by simp only [List.mem_cons,List.mem_append];exact .inr (.inr hi)):p:=h
theorem Nh {p:Prop} (h:p:=by simp only [List.mem_cons,List.mem_append];exact .inr (.inl hi)):p:=h
theorem Ms {p:Prop} (h:p:=by intro k hk;simp at hk ⊢;rcases hk with h | h | h <;> simp [h]):p:=h
theorem My {p:Prop} (h:p:=by intro k hk;simp at hk;rcases hk with rfl | rfl | rfl <;> simp):p:=h
theorem N7 {p:Prop} (h:p:=by simp [results,Tryz.results78,go_sem,q0,q1,q2,q3,q4,q5,Yw,Vt]):p:=h
theorem Mg {p:Prop} (h:p:=by have:=(List.getElem?_eq_some_iff.1 HX.out.2.1).1;exact this):p:=h
theorem Nj {p:Prop} (h:p:=by unfold vn;have:=HTL.out.1;have:=HTL.out.2.1;split <;> omega):p:=h
theorem Lu {p:Prop} (h:p:=by rintro e w' ⟨rfl,F⟩;exact ⟨rfl,Ob.up h F,hA.kept F,F.mono⟩):p:=h
theorem Mh {p:Prop} (h:p:=by simp [results,Tryz.results94,go_sem,q0,q1,q2,q3,q4,q5,Yw]):p:=h
theorem Nt {p:Prop} (h:p:=by simp only [Option.some.injEq] at e;rw [<- e];exact kS):p:=h
theorem Lv {p:Prop} (h:p:=by intro k hk;simp at hk;subst hk;exact .inr (by omega)):p:=h
theorem Nu {p:Prop} (h:p:=by simp only [Option.some.injEq] at e;rw [<- e];exact k):p:=h
theorem Ma {p:Prop} (h:p:=by cases m with | nil=>rfl | cons b m=>cases b <;> rfl):p:=h
theorem Na {p:Prop} (h:p:=by simp only [List.mem_cons,List.mem_append];simp [hg]):p:=h
theorem O3 {p:Prop} (h:p:=by simp at hi;subst hi;simp [Value.ownBlock]):p:=h
theorem O5 {p:Prop} (h:p:=by intro b hb;simp at hb;subst hb;exact hBg):p:=h
theorem N8 {p:Prop} (h:p:=by have:=HT.out;rw [<- hT3];simp <;> omega):p:=h
theorem N9 {p:Prop} (h:p:=by rw [show own2 y.tb=4 from B1.ct];decide):p:=h
theorem O8 {p:Prop} (h:p:=by simp only [List.mem_cons];exact .inr hk):p:=h
theorem O9 {p:Prop} (h:p:=by have:=hc.c2;have:=hc.t1;unfold z6;omega):p:=h
theorem Nn {p:Prop} (h:p:=by have:=HL.out;have:=HML.out;simp;omega):p:=h
theorem Oc {p:Prop} (h:p:=by simp [results,Tryz.results110,go_sem]):p:=h
theorem Od {p:Prop} (h:p:=by simp [results,Tryz.results79,go_sem]):p:=h
theorem Me {p:Prop} (h:p:=by have:=HT.out;rw [<- hT3];simp;omega):p:=h
theorem Mr {p:Prop} (h:p:=by simp;exact ⟨Ne.symm p1,Ne.symm q1⟩):p:=h
theorem Nz {p:Prop} (h:p:=by simp at hi;subst hi;rw [hg];simp):p:=h
theorem Lx {p:Prop} (h:p:=by simpa [Value.ownBlock] using hk):p:=h
theorem Lt {p:Prop} (h:p:=by have:=HT.out;simp <;> omega):p:=h
theorem Nw {p:Prop} (h:p:=by rw [<- e];simpa using hk):p:=h
theorem Ny {p:Prop} (h:p:=by show xn y.c=xn c;rw [e1]):p:=h
theorem O6 {p:Prop} (h:p:=by simp only at hon ⊢;omega):p:=h
theorem Lh {p:Prop} (h:p:=by have:=HT.out;simp;omega):p:=h
theorem Nl {p:Prop} (h:p:=by rw [size_put];exact hn):p:=h
theorem Oe {p:Prop} (h:p:=by simp;exact Ne.symm nfl):p:=h
theorem Oh {p:Prop} (h:p:=by simp;exact Ne.symm nfp):p:=h
theorem Oi {p:Prop} (h:p:=by simp;exact Ne.symm nfq):p:=h
theorem Om {p:Prop} (h:p:=by simp;exact Ne.symm nbm):p:=h
theorem Lp {p:Prop} (h:p:=by simp [Value.ownBlock]):p:=h
theorem Np {p:Prop} (h:p:=by rw [h] at hr;cases hr):p:=h
theorem Oq {p:Prop} (h:p:=by simp;exact Ne.symm hp):p:=h
theorem Ot {p:Prop} (h:p:=by simp;exact Ne.symm hq):p:=h
theorem Ou {p:Prop} (h:p:=by simp;exact Ne.symm n1):p:=h
theorem Ov {p:Prop} (h:p:=by unfold jq at h0;omega):p:=h
theorem Ow {p:Prop} (h:p:=by rw [<- h.1];exact hi):p:=h
theorem Ni {p:Prop} (h:p:=by unfold maxLen;omega):p:=h
theorem O7 {p:Prop} (h:p:=by rw [h.thl];exact hn):p:=h
theorem Oz {p:Prop} (h:p:=by rw [hS i hi];decide):p:=h
theorem Lf {p:Prop} (h:p:=by simp;exact ⟨hp,hq⟩):p:=h
theorem Li {p:Prop} (h:p:=by simp;exact hp.symm):p:=h
theorem Lj {p:Prop} (h:p:=by simp;exact hq.symm):p:=h
theorem Nf {p:Prop} (h:p:=by have:=xm hc;omega):p:=h
theorem O2 {p:Prop} (h:p:=by rw [HO.out];simp):p:=h
theorem Oo {p:Prop} (h:p:=by simpa using nto'):p:=h
theorem P7 {p:Prop} (h:p:=by rw [h.cp];decide):p:=h
theorem P8 {p:Prop} (h:p:=by rw [h.cq];decide):p:=h
theorem P9 {p:Prop} (h:p:=by rw [eL];simp [q]):p:=h
theorem Ls {p:Prop} (h:p:=by simp only;omega):p:=h
theorem Mm {p:Prop} (h:p:=by simpa using hbp):p:=h
theorem Mo {p:Prop} (h:p:=by unfold xn;omega):p:=h
theorem O4 {p:Prop} (h:p:=by unfold z6;omega):p:=h
theorem Mi {p:Prop} (h:p:=by simpa using hk):p:=h
theorem Mw {p:Prop} (h:p:=by simpa using k1):p:=h
theorem Nq {p:Prop} (h:p:=by simpa using p1):p:=h
theorem Nr {p:Prop} (h:p:=by simpa using q1):p:=h
theorem O0 {p:Prop} (h:p:=by simpa using hr):p:=h
theorem Oa {p:Prop} (h:p:=by simp <;> omega):p:=h
theorem Oy {p:Prop} (h:p:=by simpa using h0):p:=h
theorem Lm {p:Prop} (h:p:=by simp [maxLen]):p:=h
theorem Nv {p:Prop} (h:p:=by simp [fTv,vg]):p:=h
theorem P5 {p:Prop} (h:p:=by simpa using h):p:=h
theorem Nb {p:Prop} (h:p:=by rw [he];simp):p:=h
theorem P6 {p:Prop} (h:p:=by rw [hg];simp):p:=h
theorem O1 {p:Prop} (h:p:=by rw [HO.out]):p:=h
theorem Le {p:Prop} (h:p:=by kernel_rfl):p:=h
theorem Ll {p:Prop} (h:p:=by simp;omega):p:=h
theorem Ly {p:Prop} (h:p:=by simp [fEv]):p:=h
theorem Oj {p:Prop} (h:p:=by rw [e];rfl):p:=h
theorem Pd {p:Prop} (h:p:=by assumption):p:=h
theorem Ns {p:Prop} (h:p:=by simp [hk]):p:=h
theorem Ox {p:Prop} (h:p:=by simp [hz]):p:=h
theorem Mq {p:Prop} (h:p:=by simp [h]):p:=h
theorem Lr {p:Prop} (h:p:=by cases e):p:=h
theorem Ol {p:Prop} (h:p:=by cases h):p:=h
theorem Pe {p:Prop} (h:p:=by cases k):p:=h
theorem Lg {p:Prop} (h:p:=by decide):p:=h
theorem Lb {p:Prop} (h:p:=by omega):p:=h
theorem Lc {p:Prop} (h:p:=by simp):p:=h
theorem Aa {p:Prop} (h:p:=by
  have M9:=M8.kept F9 Lc;have D9:=D8.trans F9;clear D8 F9 M8;refine zy rfl _ _ _ rfl _ _ rfl rfl rfl M9 (Qt Lb) (zz Lb Lb) (zz Lb Lb) ?_;intro w10 M10 F10;have D10:=D9.own F10 Ll;simp only [Act.put];clear M9 D9 F10;refine ql ⟨D10,?_⟩;refine Z7 [false,false,false,false,false,false,false,false,false,false,false,false,false,true,true] 0 (n:=17) rfl Le Le Le rfl rfl (fun _ _ d _ _ h=>by cases d <;> exact h) D10 ?_;apply qg;refine ⟨fun wf Ff=>?_,?_⟩
  ·simp only [sel];exact La
  refine zr Le (fun w11 F11=>?_);have M11:=M10.kept F11 Lc;have D11:=HG.out.trans (D10.trans F11);have hb':=qh HG.out.size hb;clear D10 F11 M10;go_wp2;go_ret
  exact ⟨b,_,_,rfl,hb',by omega,M11,D11,fun k=>by
   simp only [show 3+t+4=7+t by omega,show 7+t+2=9+t by omega,show 2 * (7+t+7)=2 * (14+t) by omega] <;> (
   have a1:k=2->¬ k=7+t/\¬ k=9+t:=by omega
   have a2:k=7+t->¬ k=9+t:=by omega
   by_cases e1:k=2
   ·simp only [qf e1,qd (a1 e1).1,qd (a1 e1).2]
   by_cases e2:k=7+t
   ·simp only [qd e1,qf e2,qd (a2 e2)]
   by_cases e3:k=9+t
   ·simp only [qd e1,qd e2,qf e3]
   ·simp only [qd e1,qd e2,qd e3])⟩
 ):p:=h
theorem Ab {p:Prop} (h:p:=by
  simp only [sel];exact La
 ):p:=h
theorem Ac {p:Prop} (h:p:=by
  have HV5:=q9 (hv1.up HFF.out);go_loopw [9,10] (qb1 w5 vs true (fun _=>false)) (fun _ x _=>vs.length - (intOf x).toNat);case atStart=>exact ⟨0,Nat.zero_le _,rfl,by simp,Fr.refl _ _⟩
  case round =>
   obtain ⟨k,hk,rfl,hu,F6⟩:=hrel;by_cases hkl:k<vs.length
   ·obtain ⟨z,hz⟩:∃ z,vs[k]? = some z:=⟨vs[k],List.getElem?_eq_getElem hkl⟩;have hmore:=Un (P:=(fun _=>false)) hz;have HM:=q9 hmore;clear hmore;have HF6:=q9 F6;have hu':=hu.trans (show _=Value.bool true by simp);subst hu';clear hu;clear F6;go_wp2_with fail;refine wiq ?_;repeat (go_big_quiet_step (fail))
    refine wpQuiet_nil ?_;intro w7 F7;go_wp2_with fail;go_roundw;case rel=>exact ⟨k+1,by omega,by go_num,by simp,HF6.out.trans F7⟩
    case measure=>simp [intOf];omega
   ·obtain rfl:k=vs.length:=by omega
    rw [List.take_length] at hu;have hu':=hu.trans (show _=Value.bool true by simp);subst hu';clear hu;have x0:=F6.cell x0 Lc;have x1:=F6.cell x1 Lc;have x2:=F6.cell x2 Lc;have HFG:=q9 (HFF.out.trans F6);have r6:=qo r5.out F6;have F12:=(Fr.refl [] wr).alloc (.cells #[.int .i64 x.k,.int .i64 x.v,.int .i64 x.d] 148);have B12:=Go.heap_alloc_new wr (.cells #[.int .i64 x.k,.int .i64 x.v,.int .i64 x.d] 148);have r12:=qo r6 F12;have HG:=q9 (HFG.out.trans F12);clear r6 F12 F6;go_wp2_with (at_builtin;refine qq zh rfl _ _ 129 rfl Tryz.underlying129 itI rfl (B:=w1.heap.size) _ out rfl r12 _ [x] rfl (Sq.block B12 rfl rfl (Nat.le_refl _) Lm) Ll Lg HG.out.size ?_;intro a21 c21 w21 r21 f21);have HR:=q9 (show w21.ownsRow w1.heap.size 148 3 (.slice a21 (out.length+1) c21) (out++[x]).length ((out++[x]).flatMap fT) by rw [show (Value.slice a21 (out++[x]).length c21)=Value.slice a21 (out.length+1) c21 by simp] at r21;exact r21);have HG2:=q9 (HG.out.own f21 (z8 r12));clear r21 f21 r12 B12;go_wp2_with fail;go_roundw;case rel=>exact ⟨i+1,out++[x],by omega,by go_num,by simp;omega,HR.out,HG2.out,by rw [<- HK.out,HKB.out];simp⟩
    case measure=>simp [intOf];omega
 ):p:=h
theorem Ad {p:Prop} (h:p:=by
  unfold Go.wpOp at *;simp only [hj] at *;rw [wanted_put oj a oi.dst v h1] at h;by_cases hw:Region.wanted oj (yielded ops a.tmps)=true
  ·rw [qf hw] at h ⊢;refine h.imp (fun h=>?_) (fun ⟨hasks,hlets⟩=>⟨by unfold Oper.asks at *;rw [execOp_put oj hsj a oi.dst v h1] at hasks;exact hasks,hlets⟩);unfold Oper.wp at *;rw [execOp_put oj hsj a oi.dst v h1] at h;generalize (execOp a.eval oj).run P w=r at *;cases r with
   | ok n w' =>
    cases n <;> simp only [Oper.upon] at h ⊢;case value u=>exact ⟨keep a hy u,by rw [<- Act.put_comm a v u h2];exact h⟩
    case skip=>exact ⟨keep a hy _,by rw [<- Act.put_comm a v undef h2];exact h⟩
    case defer d=>exact ⟨keep _ (keepD d) _,by rw [<- Act.put_comm _ v undef h2,<- Act.put_defers];exact h⟩
    case enter f args =>
     refine Calls.mono h fun e w'' he=>?_
     cases e with
     | returned u=>exact ⟨keep a hy u,by rw [<- Act.put_comm a v u h2];exact he⟩
     | panicked c=>exact hQ _ _ _ _ _ he
     | outgrown=>exact he
    case row row args=>exact Rows.mono h fun u w'' he=>⟨keep a hy u,by rw [<- Act.put_comm a v u h2];exact he⟩
   | halt x w' =>
    cases x <;> simp only [Oper.upon] at h ⊢;case panic u=>exact hQ _ _ _ _ _ h
  ·rw [qd hw] at h ⊢;exact ⟨keep a hy _,by rw [<- Act.put_comm a v undef h2];exact h⟩
 ):p:=h
theorem Ae {p:Prop} (h:p:=by
  subst hn;go_wp2_with fail;exact Ir
 ):p:=h
theorem Af {p:Prop} (h:p:=by
  go_enter Tryz.func103,Tryz.ntmps103;go_wp2_with fail;have h0:=h;have A0:=hA;have D0:=Fr.refl [b,p,q] w;clear h hA;have hw0:=q9 (Eq.refl w);have A1:=A0;have h1:=h0;have D1:=D0;clear c0 c1 c2 c3 c4 c5 c6 c7 c8 c9 c10 c11 c12 c13 z;refine (Ref.yn _ p q s _ 0 _ A1).mono ?_;rintro e w5 ⟨rfl,A5,F5⟩;have h5:=Ob.kept h1 F5 Lf;have D5:=zm D1 F5 Lc;clear A1 h1 D1 F5 A0 h0 D0;obtain ⟨c0,c1,c2,c3,c4,c5,c6,c7,c8,c9,c10,c11,c12,c13⟩:=ze h5;have z:=h5.frozen;rw [<- HW.out] at A5;have hn:y = { x with drew:=true,line:=7 }:=by rw [<- HY.out];unfold Ld.next;simp [hl]
  subst hn;exact Ig
 ):p:=h
theorem Ag {p:Prop} (h:p:=by
  go_wp2_with fail;exact Ir
 ):p:=h
theorem Ah {p:Prop} (h:p:=by
  exact ⟨rfl,(Ob.set h5 _),(Rar.set A5 hp hq _),(Fr.setCell' D5 _ Lc)⟩
 ):p:=h
theorem Ai {p:Prop} (h:p:=by
  go_wp2_with fail;have h6:vh ((w5.setCell ⟨b,11,none⟩ (.int .i64 v)).setCell ⟨b,8,none⟩ (.int .i64 3)) b { x with s:=v,line:=3 }:=(Ob.set (Ob.set h5 (i:=11) (.int .i64 v)) (i:=8) (.int .i64 3));have A6:=(Rar.set (Rar.set A5 hp hq (i:=11) (.int .i64 v)) hp hq (i:=8) (.int .i64 3));have D6:=(Fr.setCell' (Fr.setCell' D5 (b:=b) (i:=11) (.int .i64 v) Lc) (b:=b) (i:=8) (.int .i64 3) Lc);generalize ((w5.setCell ⟨b,11,none⟩ (.int .i64 v)).setCell ⟨b,8,none⟩ (.int .i64 3))=w6 at *;clear h5 A5 D5;clear c0 c1 c2 c3 c4 c5 c6 c7 c8 c9 c10 c11 c12 c13 c14 z;refine (Qr ({ x with s:=v,line:=3 }:Lok) hi b _ h6).mono ?_;rintro e w7 ⟨rfl,h7,F7⟩;have A7:=A6.kept F7 Li Lj;have D7:=zm D6 F7 Lc;clear h6 A6 F7 D6;obtain ⟨-,-,-,-,-,-,-,-,c8,-,-,-,-,-,-⟩:=qx h7;go_wp2_with fail;go_ret;exact ⟨rfl,⟨(Lok.on ({ x with s:=v,line:=3 }:Lok)).lv,h7,by rw [xw,jk];exact sqT hs D7 hb hp2 hq2,.inl (xw _)⟩,A7,D7⟩
 ):p:=h
theorem Aj {p:Prop} (h:p:=by
  subst hn;obtain ⟨-,-,-,-,-,c5,c6,-,-,-,-,-,c12,-,-⟩:=qx h6;have k5:=qb c5;have k6:=qb c6;have k12:=qb c12;clear c5 c6 c12;refine wiq ?_;repeat (go_big_quiet_step (fail))
  refine wpQuiet_nil ?_;intro w8 F8;replace h6:=Ob.up h6 F8;replace A6:=A6.kept F8;replace D6:=D6.then F8;clear k5 k6 k12 F8;go_wp2_with fail;refine (Qr ({ x with k:=v }:Lok) hi b _ h6).mono ?_;rintro e w7 ⟨rfl,h7,F7⟩;have A7:=A6.kept F7 Li Lj;have D7:=zm D6 F7 Lc;clear h6 A6 F7 D6;obtain ⟨-,-,-,-,-,-,-,-,c8,-,-,-,-,-,-⟩:=qx h7;go_wp2_with fail;go_ret;exact ⟨rfl,⟨(Lok.on ({ x with k:=v }:Lok)).lv,h7,by rw [xw,jk];exact sqT hs D7 hb hp2 hq2,.inl (xw _)⟩,A7,D7⟩
 ):p:=h
theorem Ak {p:Prop} (h:p:=by
  have HM:=q9 (Je x Lb hc b p q s w h hA hp hq);obtain ⟨-,-,-,-,-,-,-,c7,-,-,-,-,-,-⟩:=ze h;clear hA;go_enter Tryz.func103,Tryz.ntmps103;go_wp2_with fail;refine HM.out.mono ?_;rintro e w7 ⟨rfl,h7,A7,D7⟩;clear HM c7;obtain ⟨-,-,-,-,-,-,-,c7,-,-,-,-,-,-⟩:=ze h7;go_wp2_with fail;exact Iw
 ):p:=h
theorem Am {p:Prop} (h:p:=by
  have hb:=q8n a;rw [Jt];obtain ⟨x,hx⟩:=Int.eq_ofNat_of_zero_le hb.1;have hp:2 ^ i<=2 ^ 24:=Nat.pow_le_pow_right Lg hi;have hpos:0<2 ^ i:=Nat.two_pow_pos i;have hlt:x % 2 ^ i<2 ^ i:=Nat.mod_lt _ hpos;rw [hx,u64_and_nat _ _ Lb Lb,show m=2 ^ i - 1 by omega,Nat.and_two_pow_sub_one_eq_mod,IntWalk.wrap64_in _ ⟨by omega,by omega⟩,show 2 ^ i - 1+1=2 ^ i by omega,Int.natCast_emod,<- hx];unfold un;refine Int.emod_emod_of_dvd _ ?_;have:(18446744073709551616:Nat)=2 ^ i * 2 ^ (64 - i):=by rw [<- Nat.pow_add,show i+(64 - i)=64 by omega]
  exact ⟨((2 ^ (64 - i):Nat):Int),by rw [<- Int.natCast_mul,<- this];rfl⟩
 ):p:=h
theorem Ao {p:Prop} (h:p:=by
  subst hn;exact Ig
 ):p:=h
theorem Ap {p:Prop} (h:p:=by
  have g1:=hall e he hb;have g0:=(mem_ready.1 hr).1;rw [heq] at g1;rcases Nat.lt_or_ge i listed.size with h' | h'
  ·simp [h'] at g0 g1;rw [g0] at g1;cases g1
  ·simp [Array.getElem?_eq_none h'] at g1
 ):p:=h
theorem Aq {p:Prop} (h:p:=by
  obtain ⟨x,rfl⟩:=Int.eq_ofNat_of_zero_le h0;obtain ⟨y,rfl⟩:=Int.eq_ofNat_of_zero_le h2;have hp:2 ^ i<=2 ^ 24:=Nat.pow_le_pow_right Lg hi
  have hy:y<2 ^ i:=by
   have:((2 ^ i:Nat):Int)=(2:Int) ^ i:=by simp
   omega
  have hx:x * 2 ^ i<=1073741824 * 2 ^ 24:=Nat.mul_le_mul Lb hp;have e:((x:Int) * 2 ^ i)=((x * 2 ^ i:Nat):Int):=by simp
  rw [e,u64_or_nat _ _ Lb Lb,nat_join i _ _ (Nat.mul_mod_left _ _) hy,IntWalk.wrap64_in _ ⟨by omega,by omega⟩];omega
 ):p:=h
theorem Au {p:Prop} (h:p:=by
  obtain ⟨c7,c8,c9,c12⟩:=(HK.out.up Ff).mc;obtain ⟨t1,t3,t4,t5,-⟩:=(HK.out.up Ff).tc;simp only [HZ.out.1,HZ.out.2.1,HZ.out.2.2,vg] at t3 t4 t5;have k3:=qb t3;have k4:=qb t4;have k5:=qb t5;have k7:=qb c7;have k9:=qb c9;have k12:=qb c12;simp only [sel];repeat (go_big_quiet_step ((go_at_call 76;exact Calls.in_ (Y2 P' HOK.out.1 HOK.out.2 _ pb _ ((HP.out.kept Ff Lc).kept (In.fr _) Lc)))))
  exact wpQuiet_nil rfl
 ):p:=h
theorem Av {p:Prop} (h:p:=by
  go_wp2;go_ret;exact ⟨rfl,(Fr.refl _ _).alloc _⟩
 ):p:=h
theorem Aw {p:Prop} (h:p:=by
  rw [hc,show s.swap i old v=s.note 3 i (qw s.l i) false by rw [St.swap,qd (by simp [hc])]];go_enter Tryz.func113,Tryz.ntmps113;go_wp2_with (first | (go_at_call 19;refine (yx _ p q _ i h).mono ?_;rintro e w' ⟨rfl,rfl⟩) | (go_at_call 40;refine (Vb _ p q _ i h).mono ?_;rintro e w' ⟨rfl,rfl⟩));exact Il
 ):p:=h
theorem Ay {p:Prop} (h:p:=by
  rw [hc,show s.swap i old v=s.note 3 i (qw s.l i) false by rw [St.swap,qd (by simp [hc])]];go_enter Tryz.func53,Tryz.ntmps53;go_wp2_with (first | (go_at_call 14;refine (yx _ p q _ i h).mono ?_;rintro e w' ⟨rfl,rfl⟩) | (go_at_call 36;refine (Vb _ p q _ i h).mono ?_;rintro e w' ⟨rfl,rfl⟩));exact Il
 ):p:=h
theorem B0 {p:Prop} (h:p:=by
  have k0:=qb (Ff.cell c0 Lc);have k1:=qb (Ff.cell c1 Lc);have k2:=qb (Ff.cell c2 Lc);have k3:=qb (Ff.cell c3 Lc);have p0:=qb (Ff.cell q0 Lc);have p1:=qb (Ff.cell q1 Lc);have p2:=qb (Ff.cell q2 Lc);have p3:=qb (Ff.cell q3 Lc);simp only [sel];repeat (go_big_quiet_step ((go_at_call 70;exact Calls.in_same (q22 _ _ _))))
  exact wpQuiet_nil rfl
 ):p:=h
theorem Ba {p:Prop} (h:p:=by
  go_enter Tryz.func48,Tryz.ntmps48;go_wp2_with fail;refine wiq ?_;repeat (go_big_quiet_step ((go_at_call 67;exact Calls.in_same ((Ku m _ b ov pv dv pa tv0 kv ev R ss _ (Ob.up HH.out.1 (In.fr _)) (HH.out.2.kept (In.fr _) Lc)).mono (fun e w' hh=>⟨hh.1,hh.2.symm⟩)))))
  exact Ip
 ):p:=h
theorem Bc {p:Prop} (h:p:=by
  have HN:=q9 hn;clear hn;go_enter Tryz.func124,Tryz.ntmps124;go_wp2_with fail;have h1:yd _ b { x with line:=8 }:=Ob.set h (i:=7) (.int .i64 8);have D1:Fr [b] w (w.setCell ⟨b,7,none⟩ (.int .i64 8)):=Fr.setCell _ Lc;refine (Yt { x with line:=8 } b _ h1).mono ?_;rintro e w2 ⟨rfl,h2,F2⟩;go_wp2;go_end0;exact ⟨rfl,by rw [HN.out];exact h2,D1.trans F2⟩
 ):p:=h
theorem Be {p:Prop} (h:p:=by
  subst hn;exact ⟨rfl,⟨wv,Ob.set (Ob.set h12 _) (i:=8) (.int .i64 0),.inl ⟨rfl,rfl⟩⟩,Rar.set (Rar.set A12 hp hq _) hp hq (i:=8) (.int .i64 0),Fr.setCell' (Fr.setCell' D12 _ Lc) (b:=b) (i:=8) (.int .i64 0) Lc⟩
 ):p:=h
theorem Bh {p:Prop} (h:p:=by
  obtain ⟨b,off,spot⟩:=a;have hspot:spot=none:=by simpa [Addr.add] using World.cell?_spot (hcell 0 Lb)
  subst hspot;refine .inr ⟨b,off,rfl,World.block_lt_of_cell? W _ (hcell 0 Lb),fun i hi=>?_⟩;rw [hlen] at hi;rw [<- add_plain,hcell i Lb];simp [List.getD_eq_getElem?_getD,hi]
 ):p:=h
theorem Bi {p:Prop} (h:p:=by
  obtain ⟨-,-,-,-,-,-,-,c7,-,-,-,-,-,-⟩:=ze h7;go_wp2_with fail;exact Iw
 ):p:=h
theorem Bj {p:Prop} (h:p:=by
  go_wp2;go_ret;exact ⟨_,rfl,by omega,Ob.newAt (Yr _ _) _ _,F0.alloc _⟩
 ):p:=h
theorem Bo {p:Prop} (h:p:=by
  rw [hLA] at hj';obtain ⟨ok,hok,e,he,hb,hon⟩:=Xk hLB (mem_ready.1 hj').1;rw [hoj] at hok;cases hok;exact absurd hon (hnot e he hb)
 ):p:=h
theorem Bp {p:Prop} (h:p:=by
  exact ⟨g,same,hx.rest (Ext.refl _ _) rfl rfl rfl (fun k=>by simp at k) (.inl Lc) Lc,fun a i k=>nomine _ a i (.inl Lc) k⟩
 ):p:=h
theorem Bq {p:Prop} (h:p:=by
  have A7:=(A6).kept F7 Li Lj;have D7:=zm (D6) F7 Lc;obtain ⟨-,-,-,-,-,c5,-,-,-,-⟩:=xc h7;go_wp2;exact Iw
 ):p:=h
theorem Br {p:Prop} (h:p:=by
  exact Stp.of rfl (Xo.inn (h5.re S6 (fun k hk hi=>by simp at hi;subst hi;simp only [List.mem_cons,List.mem_append] at hk;rcases hk with h | h | h | h <;> contradiction) o6 rfl rfl rfl rfl)) (fun k hk=>.inl hk) (A5.kept S6 Nq Nr) (D5.trans (S6.mono))
 ):p:=h
theorem Bs {p:Prop} (h:p:=by
  unfold Go.wpOp;simp only [hi];rcases hy with ⟨hw1,hv⟩ | ⟨hw1,rfl⟩
  ·simp only [hw1,if_true];obtain ⟨u,hu,he⟩:=hv w hw;exact .inl (Vv hu fun w' hw'=>by rw [Zr he];exact h w' hw')
  ·simp only [hw1,Bool.false_eq_true,if_false];exact h w (Fr.refl _ _)
 ):p:=h
theorem Bt {p:Prop} (h:p:=by
  go_wp2_with fail;go_roundw
  case rel=>exact ⟨k+1,HI2.out.1,by simp,rfl,fun j z hj hz=>by
   by_cases e:j=k
   ·subst e;rw [HH.out.1] at hz;cases hz;exact HP.out
   ·exact HH.out.2 j z Lb hz⟩
  case measure=>exact meas rfl HI2.out.2
 ):p:=h
theorem Bu {p:Prop} (h:p:=by
  dsimp only at C1 C2;rw [<- HX1.out] at C1;exact ⟨rfl,⟨own3,_,C1⟩,HFW.out.trans ((FrO.of HE.out Lc).trans C2)⟩
 ):p:=h
theorem Bv {p:Prop} (h:p:=by
  exact ⟨hcm,hx.key,hx.wkey,fun _ e=>Lr,fun _ y e=>by simp only [Option.some.injEq] at e;rw [<- e];exact k,fun y e=>Mf,fun _ e=>Lr⟩
 ):p:=h
theorem Bz {p:Prop} (h:p:=by
  refine (Qc _ p q s i v h).mono ?_;rintro e w1 ⟨rfl,A1,F1⟩;go_wp2_with fail;refine (Q0 _ p q _ 3 i (qw s.l i) true A1).mono ?_;rintro e w2 ⟨rfl,A2,F2⟩;go_wp2;go_ret;exact ⟨rfl,A2,(F1.mono).trans (F2.mono)⟩
 ):p:=h
theorem C0 {p:Prop} (h:p:=by
  simp only [St.yl,x7] at hj;simp only [St.yl,Um v hk,Array.getElem?_setIfInBounds,hc j hj,nth,List.getD_eq_getElem?_getD,List.getElem?_set];split
  ·rename_i hkj;subst hkj;rw [qf (by rw [hs];omega)];rfl
  ·rfl
 ):p:=h
theorem C8 {p:Prop} (h:p:=by
  have HG2:=q9 (HG.out.own f21 (z8 r12));clear r21 f21 r12 B12;go_wp2_with fail;go_roundw;case rel=>exact ⟨i+1,by omega,by go_num,by rw [HNX.out];exact HR.out,HG2.out⟩
  case measure=>simp [intOf];omega
 ):p:=h
theorem Ca {p:Prop} (h:p:=by
  go_wp2_with fail;go_ret;exact ⟨rfl,(Ob.set (Ob.set h5 _) (i:=6) (.int .i64 0)),(Rar.set (Rar.set A5 hp hq _) hp hq (i:=6) (.int .i64 0)),(Fr.setCell' (Fr.setCell' D5 _ Lc) (b:=b) (i:=6) (.int .i64 0) Lc)⟩
 ):p:=h
theorem Cb {p:Prop} (h:p:=by
  have A7:=A6.kept F7 Li Lj;have D7:=zm D6 F7 Lc;clear h6 A6 D6 F7;obtain ⟨-,-,-,-,-,-,-,c7,-,-,-,-,-⟩:=xe h7;go_wp2_with fail;exact Iw
 ):p:=h
theorem Cc {p:Prop} (h:p:=by
  have k13:=qb c13;clear c0 c1 c2 c3 c4 c5 c6 c7 c8 c9 c10 c11 c12 c13 e3;refine wiq ?_;repeat (go_big_quiet_step (fail))
  refine wpQuiet_nil ?_;intro w2 F2;go_wp2_with fail;go_ret3;exact ⟨rfl,F2⟩
 ):p:=h
theorem Cg {p:Prop} (h:p:=by
  subst hn;exact ⟨rfl,⟨gv',h7,HG.out.imp id (fun ⟨ss,a1,a2,a3,a4⟩=>⟨ss,a1,a2,fun k hk=>⟨qh HW.out (a3 k hk).1,(a3 k hk).2⟩,fun s hs k hk=>⟨qh HW.out (a4 s hs k hk).1,(a4 s hs k hk).2⟩⟩)⟩,A7,D7⟩
 ):p:=h
theorem Ci {p:Prop} (h:p:=by
  rw [<- HX.out];unfold Mc.steps mkM;simp only [HTH.out,HGD.out,HQ.out.1];simp [HQ.out.2.1,HQ.out.2.2,HOV.out]
 ):p:=h
theorem Cj {p:Prop} (h:p:=by
  rcases hv with ⟨rfl,e0⟩ | ⟨g,c0,cur,rfl,-,-,h1,-⟩
  ·have hx0:os.length=0:=by first | exact e0 | omega
   exact ⟨none,0,by rw [hx0],by omega⟩
  ·exact ⟨_,c0,rfl,by first | exact h1 | omega⟩
 ):p:=h
theorem Ck {p:Prop} (h:p:=by
  obtain ⟨-,-,-,-,-,c5,-,-,-,-⟩:=xc h7;go_wp2;exact Iw
 ):p:=h
theorem Cn {p:Prop} (h:p:=by
  exact fun ⟨y,e,_⟩=>by first | cases e | (simp only at e;rw [em] at e;cases e) | (rw [em] at e;cases e)
 ):p:=h
theorem Co {p:Prop} (h:p:=by
  subst hji;exact hy.wpOp hi (hw.then h2) fun w' hw'=>⟨(hw.then h2).then hw',H.more (h2.trans hw')⟩
 ):p:=h
theorem Cq {p:Prop} (h:p:=by
  exact ⟨⟨by simp only;omega,by simp only;omega,by simp only;omega,fun y e=>by cases e;exact (V9.new h.c hk _ _).le Lb,fun y e=>Lr,fun y e=>Lr⟩,rfl,rfl,.inl Lc⟩
 ):p:=h
theorem Cr {p:Prop} (h:p:=by
  subst hn;have g:decide (v<=x.key)=true:=by simpa using hv0
  go_wp2_with fail;go_ret;exact ⟨rfl,(h6.set _).set _,(A6.set hp hq _).set hp hq _,(D6.setCell' _ Lc).setCell' _ Lc⟩
 ):p:=h
theorem Cs {p:Prop} (h:p:=by
  exact ⟨rfl,(Ob.set (Ob.set h6 _) (i:=7) (.int .i64 0)),(Rar.set (Rar.set A6 hp hq _) hp hq (i:=7) (.int .i64 0)),(Fr.setCell' (Fr.setCell' D6 _ Lc) (b:=b) (i:=7) (.int .i64 0) Lc)⟩
 ):p:=h
theorem Ct {p:Prop} (h:p:=by
  go_wp2;go_ret;exact ⟨rfl,rfl⟩
 ):p:=h
theorem Cu {p:Prop} (h:p:=by
  exact ⟨⟨fun y e=>(newp _ _ _ y hk e).1,fun y e=>Lr,fun y e=>Lr⟩,fun a i ⟨y,e,k⟩=>(newp _ _ _ y hk e).2.1 a i k,fun q ⟨y,e,k⟩=>(newp _ _ _ y hk e).2.2 q k⟩
 ):p:=h
theorem Cv {p:Prop} (h:p:=by
  rw [e];exact ⟨rfl,⟨own,y,HU.out.1⟩,FrO.of HU.out.2.2 Lc⟩
 ):p:=h
theorem Cw {p:Prop} (h:p:=by
  simp only [sel];repeat (go_big_quiet_step ((go_at_call 81;exact Calls.in_same (Xz _ _))))
  exact wpQuiet_nil rfl
 ):p:=h
theorem Cx {p:Prop} (h:p:=by
  rw [List.mem_singleton.1 ht] at hk;simp at hk;rcases hk with h | h | h
  ·exact .inl Mq
  ·exact .inl Mq
  ·exact .inr (by rw [h];exact hpb)
 ):p:=h
theorem Cy {p:Prop} (h:p:=by
  obtain ⟨c0,c1,c2,c3,c4,c5,c6⟩:=zk h2;go_wp2_with fail;go_ret;exact ⟨by rw [HB.out];rfl,l2,HN.out,A2,D2⟩
 ):p:=h
theorem Cz {p:Prop} (h:p:=by
  go_wp2_with fail;refine (Ref.ku x.t ht.1 ht.2 _).mono ?_;rintro e _ ⟨rfl,rfl⟩;rw [show (3:Int)+x.t=x.pa from rfl];go_wp2_with fail;go_ret;exact ⟨rfl,Fr.refl _ _⟩
 ):p:=h
theorem Da {p:Prop} (h:p:=by
  subst hl;intro w2 h2;refine ⟨fun h0=>(by rw [hr] at h0;cases h0),fun j hj=>?_⟩;rw [hr] at hj;simp only [List.mem_singleton] at hj;subst hj;exact Qd ho Zl (h w2 h2)
 ):p:=h
theorem Db {p:Prop} (h:p:=by
  go_roundw;case rel=>exact ⟨k+1,HK2.out.1,by simp,by rw [HR8.out.2.2];exact HR8.out.1,HR8.out.2.1.1,HR8.out.2.1.2⟩
  case measure=>exact meas rfl HK2.out.2
 ):p:=h
theorem Dc {p:Prop} (h:p:=by
  go_wp2_with fail;refine (Qm t c wd v h1 h2 _).mono ?_;rintro e w1 ⟨rfl,F1⟩;exact Iu
 ):p:=h
theorem De {p:Prop} (h:p:=by
  have h0:a=aE:=by have:=h w0 (Fr.refl _ _);cases L <;> exact this
  subst h0;exact H
 ):p:=h
theorem Df {p:Prop} (h:p:=by
  go_enter Tryz.func6,Tryz.ntmps6;go_wp2;go_ret;exact ⟨by rw [e];rfl,F0⟩
 ):p:=h
theorem Dg {p:Prop} (h:p:=by
  rw [e];exact ⟨rfl,⟨_,_,HK.out.h⟩,HF.out⟩
 ):p:=h
theorem Dh {p:Prop} (h:p:=by
  have hi':=hi;rw [hr] at hi';obtain ⟨_,o,ho,_⟩:=mem_ready.1 hi;have ho':l[i]? = some o:=by simpa using ho
  exact Qd ho' Zl (h w2 h2 i hi' o ho')
 ):p:=h
theorem Di {p:Prop} (h:p:=by
  rw [qf (h1 0 y Lb rfl),ih (k:=k) Mi (fun i z hi hz=>h1 (i+1) z Lb hz) (fun z hz=>h2 z (by simpa using hz))];simp
 ):p:=h
theorem Dj {p:Prop} (h:p:=by
  simp only [Bool.and_eq_true,Bool.or_eq_true,decide_eq_true_eq] at hl;omega
 ):p:=h
theorem Dk {p:Prop} (h:p:=by
  subst hn;go_wp2_with fail;go_ret;exact ⟨rfl,(h5.set _).set _,(A5.set hp hq _).set hp hq _,(D5.setCell' _ Lc).setCell' _ Lc⟩
 ):p:=h
theorem Dl {p:Prop} (h:p:=by
  go_enter Tryz.func126,Tryz.ntmps126;go_wp2_with (go_at_call 111;refine (vk _ _ _).mono ?_;rintro e _ ⟨rfl,rfl⟩);go_ret;exact ⟨rfl,F0⟩
 ):p:=h
theorem Dm {p:Prop} (h:p:=by
  rw [e1];go_wp2;exact bodyPost_ret (v:=.tuple #[.int .i64 (-1),.int .i64 (-1)]) Od rfl ⟨rfl,rfl⟩
 ):p:=h
theorem Dn {p:Prop} (h:p:=by
  rcases hc with h0 | ⟨g,off,rfl,-,hcell⟩
  ·exact hnil h0
  ·exact go ⟨g,off,none⟩ (fun j u hu=>by rw [addr_add];exact hcell j u hu) hx
 ):p:=h
theorem Dp {p:Prop} (h:p:=by
  simp only at e;split at e <;> omega
 ):p:=h
theorem Dq {p:Prop} (h:p:=by
  exact ⟨g,same,hx.rest (Ext.refl _ _) rfl rfl rfl (fun _=>h3) (.inr Lc) Lc,fun a i k=>nomine _ a i (.inr Lc) k⟩
 ):p:=h
theorem Dt {p:Prop} (h:p:=by
  exact up ⟨h.c,h.kc,h.kt,h.t0,h.lo,h.w,fun e=>by simp at e,h.l,fun e=>by simp at e,h.n⟩
 ):p:=h
theorem Du {p:Prop} (h:p:=by
  intro w2 h2;subst hg;exact ⟨rfl,wpAny_of_seq (md:=.any) (l.drop k) k LA a w2 (fun j=>by simp [List.getElem?_drop]) hB (h w2 h2)⟩
 ):p:=h
theorem Dv {p:Prop} (h:p:=by
  go_wp2_with fail;refine HX.out.mono ?_;rintro e w5 ⟨rfl,h5,F5⟩;go_wp2_with fail;go_end0;exact ⟨rfl,h5,F7.trans F5⟩
 ):p:=h
theorem Dw {p:Prop} (h:p:=by
  rw [Array.setIfInBounds_comm _ _ hji];exact h3.2.2
 ):p:=h
theorem Dx {p:Prop} (h:p:=by
  exact ⟨hx.t,hx.c,hx.key,hx.data,hx.w,kx,fun z e=>Mj⟩
 ):p:=h
theorem Dy {p:Prop} (h:p:=by
  cases hq:qs with
  | nil=>exact absurd hq C.qn
  | cons z t=>rw [hq] at k;rw [k.1];simp
 ):p:=h
theorem Dz {p:Prop} (h:p:=by
  intro k hk;simp only [List.mem_cons] at hk;rcases hk with rfl | rfl | hk
  ·exact Ob.lt h1
  ·exact Ob.lt h2
  ·exact h3.lt k hk
 ):p:=h
theorem E0 {p:Prop} (h:p:=by
  go_wp2;go_ret;exact ⟨by unfold vn;rw [qf Lb];rfl,rfl⟩
 ):p:=h
theorem Ea {p:Prop} (h:p:=by
  go_wp2_with fail;go_ret;exact ⟨rfl,h5,A5,D5⟩
 ):p:=h
theorem Eb {p:Prop} (h:p:=by
  split
  ·unfold Bd.five;simp only;split <;> rfl
  ·exact L9
 ):p:=h
theorem Ec {p:Prop} (h:p:=by
  go_enter Tryz.func67,Tryz.ntmps67;go_wp2_with fail;go_ret;exact ⟨rfl,rfl⟩
 ):p:=h
theorem Ed {p:Prop} (h:p:=by
  exact ⟨h.oc,h.ok,h.ow,hcl,fun mm e=>by first | cases e | (simp only at e;rw [em] at e;cases e) | (rw [em] at e;cases e)⟩
 ):p:=h
theorem Ee {p:Prop} (h:p:=by
  intro y e;simp only [Option.some.injEq] at e;rw [<- e];exact PtW.new Lb k16 (.of Lb Lb) (q6f _ _) _
 ):p:=h
theorem Ef {p:Prop} (h:p:=by
  refine (Q0 _ p q s 1 i (qw s.l i) false h).mono ?_;rintro e w' ⟨rfl,A1,F1⟩;go_wp2;go_ret;exact ⟨rfl,A1,F1.mono⟩
 ):p:=h
theorem Eg {p:Prop} (h:p:=by
  rw [Array.getElem?_toList] at e1;rw [e1,nth,St.fresh,List.getD_eq_getElem?_getD,List.getElem?_replicate,qf hi'];rfl
 ):p:=h
theorem Eh {p:Prop} (h:p:=by
  rcases Qp s.l i with ⟨k,rfl,hk,e⟩ | ⟨hk,e⟩
  ·rw [e];exact Jn w p q s k h hk
  ·rw [e];exact V8 w p q s i h hk
 ):p:=h
theorem Ei {p:Prop} (h:p:=by
  go_wp2_with fail;go_ret;exact ⟨rfl,rfl⟩
 ):p:=h
theorem Ej {p:Prop} (h:p:=by
  rw [<- HX.out];unfold Mc.steps mkM;simp only [HTH.out,HGD.out,HQ.out.1];simp [HQ.out.2.1,HQ.out.2.2,HOV.out,HPL.out]
 ):p:=h
theorem Ek {p:Prop} (h:p:=by
  rcases hBn k hk with e | e
  ·rw [xz]
   ·exact HBC.out k e
   exact (hP.kept F2 Lc).lt k e
  ·exact yh e
 ):p:=h
theorem El {p:Prop} (h:p:=by
  have:=(Rel.low hc h ha).1;rw [ne _ Lb];exact h.rel.F a ha f h0 h1
 ):p:=h
theorem Em {p:Prop} (h:p:=by
  refine wpQuiet_nil ?_;intro w1 F1;go_wp2;go_ret;exact ⟨q2c Lb,((Fr.refl [] w).alloc _).trans F1⟩
 ):p:=h
theorem En {p:Prop} (h:p:=by
  go_wp2_with fail;go_ret;exact ⟨rfl,(Ob.set h7 _),(Rar.set A7 hp hq _),(Fr.setCell' D7 _ Lc)⟩
 ):p:=h
theorem Eo {p:Prop} (h:p:=by
  refine wpQuiet_nil ?_;intro w2 F2;clear k0 d0 d1 d2 d3 HZ;go_wp2;go_ret;exact ⟨rfl,F0.trans F2⟩
 ):p:=h
theorem Ep {p:Prop} (h:p:=by
  obtain ⟨d,rfl⟩:=Nat.le.dest hl;clear hl;induction d with
  | zero=>exact h
  | succ d ih=>exact ih.more
 ):p:=h
theorem Es {p:Prop} (h:p:=by
  go_wp2_with fail;go_ret;exact ⟨rfl,Fr.refl _ _⟩
 ):p:=h
theorem Et {p:Prop} (h:p:=by
  exact ⟨qs,q1,q2.congr (fun y _=>by rw [e2]),fun y hy=>⟨(q3 y hy).1,by rw [eb];exact (q3 y hy).2⟩⟩
 ):p:=h
theorem Eu {p:Prop} (h:p:=by
  cases f with
  | zero=>exact fun w2 h2=>h w2 (k.trans h2)
  | succ f=>exact fun w2 h2=>h w2 (k.trans h2)
 ):p:=h
theorem Ew {p:Prop} (h:p:=by
  rcases Nat.lt_or_ge k listed.size with h' | h'
  ·exact h'
  ·simp [Array.getElem?_eq_none h'] at hk
 ):p:=h
theorem Ex {p:Prop} (h:p:=by
  cases eL:g.L with
  | nil=>rw [eL] at k;have:a=0:=k;omega
  | cons y t=>rw [eL] at k;rw [k.1];simp
 ):p:=h
theorem Ey {p:Prop} (h:p:=by
  exact Zf hc Ls (.inl h2) Ls cnt
 ):p:=h
theorem Ez {p:Prop} (h:p:=by
  rw [Qu hc Lb Lb];unfold Pl.Qh;rw [qd Lb,qd Lb,qd Lb];rfl
 ):p:=h
theorem Fe {p:Prop} (h:p:=by
  refine eq a 4 ?_;by_cases e:a=b
  ·right;intro e2;subst e;exact k (h4 e2.symm)
  ·exact .inl e
 ):p:=h
theorem Fg {p:Prop} (h:p:=by
  rw [List.mem_singleton.1 ht] at hk;exact .inl hk
 ):p:=h
theorem Fh {p:Prop} (h:p:=by
  exact ⟨hc,i0,i1,len,by simp,fun _=>h2,cnt⟩
 ):p:=h
theorem Fp {p:Prop} (h:p:=by
  go_wp2_with fail;go_end0;exact ⟨rfl,Ob.set h2 _,D2.trans (Fr.setCell _ Lc)⟩
 ):p:=h
theorem Fs {p:Prop} (h:p:=by
  rw [ne _ Mo];exact h.rel.hn
 ):p:=h
theorem Ft {p:Prop} (h:p:=by
  congr 3;by_cases h:i+1=r.length
  ·rw [qf h,qf Lb]
  ·rw [qd h,qd Lb]
 ):p:=h
theorem Fu {p:Prop} (h:p:=by
  intro k hk;simp at hk;subst hk;exact Ob.lt h
 ):p:=h
theorem Fw {p:Prop} (h:p:=by
  exact ⟨rfl,A2,(F1.mono).trans (F2.mono)⟩
 ):p:=h
theorem Ga {p:Prop} (h:p:=by
  rw [e1] at h1 ⊢;exact ⟨rfl,⟨x.lv,h1,sqK hs D1 hb hp2 hq2,.inl rfl⟩,A1,D1⟩
 ):p:=h
theorem Gb {p:Prop} (h:p:=by
  exact q0y.on hc h0 ht (by unfold Nd.met;simp only;have:=h2 (kg (x.told s) - 2);omega)
 ):p:=h
theorem Gc {p:Prop} (h:p:=by
  exact ⟨(Array.getElem?_eq_some_iff.1 hp).1,(Array.getElem?_eq_some_iff.1 hq).1⟩
 ):p:=h
theorem Gd {p:Prop} (h:p:=by
  rw [qd hr,qd (by rw [List.length_cons];have:=List.length_pos_iff.2 hr;omega)];simp
 ):p:=h
theorem Gf {p:Prop} (h:p:=by
  rw [qf e] at hsc;clear hb;go_wp2;go_ret;exact ⟨by rw [hsc];rfl,G1⟩
 ):p:=h
theorem Gg {p:Prop} (h:p:=by
  have:=h i hi;unfold J7 at this;simpa [List.getD_eq_getElem?_getD,hi] using this
 ):p:=h
theorem Gh {p:Prop} (h:p:=by
  first | cases e | (simp only at e;rw [hp] at e;cases e) | (rw [hp] at e;cases e)
 ):p:=h
theorem Gi {p:Prop} (h:p:=by
  rw [IntKind.wrap_u64,show (n:Int) % 18446744073709551616=n by omega];exact Wv n
 ):p:=h
theorem Gj {p:Prop} (h:p:=by
  exact ⟨hc,by simp,hv,by simp,fun _=>h4',by simp,by simp,hl,hg,hw,by simp,h0⟩
 ):p:=h
theorem Gl {p:Prop} (h:p:=by
  intro z hz;obtain ⟨j,hj⟩:=List.mem_iff_getElem?.1 hz;simpa using h j z hj
 ):p:=h
theorem Gm {p:Prop} (h:p:=by
  simp only [Option.some.injEq] at e;rw [<- e];exact k1
 ):p:=h
theorem Gp {p:Prop} (h:p:=by
  rw [List.getElem?_set_ne (fun e=>hi e.symm)] at hy;exact (h.th i y hy).more
 ):p:=h
theorem Gq {p:Prop} (h:p:=by
  have:=h j l[j] hj (List.getElem?_eq_getElem Lb);simpa using this
 ):p:=h
theorem Gu {p:Prop} (h:p:=by
  go_enter Tryz.func127,Tryz.ntmps127;go_wp2;go_ret;exact ⟨rfl,F0⟩
 ):p:=h
theorem Gv {p:Prop} (h:p:=by
  exact absurd (by rw [eL];simp [hx]) k
 ):p:=h
theorem Gw {p:Prop} (h:p:=by
  have:=World.block_lt_of_cell? W _ h00;simpa [Addr.add] using this
 ):p:=h
theorem Gx {p:Prop} (h:p:=by
  simp only at k;split at k <;> omega
 ):p:=h
theorem Gy {p:Prop} (h:p:=by
  go_wp2_with fail;go_ret;exact q19 (by unfold J8;rw [HR.out])
 ):p:=h
theorem Gz {p:Prop} (h:p:=by
  rw [List.take_add_one,hx,Option.toList_some,List.foldl_append];rfl
 ):p:=h
theorem H0 {p:Prop} (h:p:=by
  go_wp2_with fail;go_ret;exact ⟨rfl,F0⟩
 ):p:=h
theorem H2 {p:Prop} (h:p:=by
  exact ⟨g,off,rfl,hc 0 _ rfl,hc 1 _ rfl⟩
 ):p:=h
theorem H3 {p:Prop} (h:p:=by
  rw [q,Zu Mo Mo,h.rel.hn,e1]
 ):p:=h
theorem Ha {p:Prop} (h:p:=by
  exact .inr ⟨b,off,h5,qj h6 f.size,fun i hi=>Zz f (h7 i hi)⟩
 ):p:=h
theorem Hb {p:Prop} (h:p:=by
  obtain rfl:v = .slice none 0 0:=by simpa using hcs
  exact q5p
 ):p:=h
theorem He {p:Prop} (h:p:=by
  repeat rw [heap_setCell_other _ _ _ _ (Ne.symm ne)]
  exact hq
 ):p:=h
theorem Hf {p:Prop} (h:p:=by
  simp only [Option.some.injEq] at e;rw [<- e];exact ⟨k3,k4⟩
 ):p:=h
theorem Hh {p:Prop} (h:p:=by
  go_wp2_with fail;go_ret;exact ⟨⟨_,rfl,HR.out⟩,F⟩
 ):p:=h
theorem Hj {p:Prop} (h:p:=by
  rw [(Pl.Vp (wd:=c.wd) hc.t1 hc.t8 Lb hc.top).1];omega
 ):p:=h
theorem Hk {p:Prop} (h:p:=by
  rw [ne _ Lb];exact h.rel.fz q hq
 ):p:=h
theorem Hl {p:Prop} (h:p:=by
  rw [hx.cc];unfold Vr;exact h.rel.ht _ Lb Lb
 ):p:=h
theorem Hm {p:Prop} (h:p:=by
  exact ⟨[],none,0,rfl,by simp [maxLen],by simp,.inl rfl⟩
 ):p:=h
theorem Hn {p:Prop} (h:p:=by
  unfold fit inF most Tq;rw [Bool.eq_iff_iff];simp;omega
 ):p:=h
theorem Ho {p:Prop} (h:p:=by
  have:=h.len;have:=List.length_pos_iff.2 hne;simp;omega
 ):p:=h
theorem Hp {p:Prop} (h:p:=by
  exact ⟨g,off,rfl,hc 0 _ rfl,hc 1 _ rfl,hc 2 _ rfl⟩
 ):p:=h
theorem Hq {p:Prop} (h:p:=by
  rw [heap_setCell_other _ _ _ _ (Ne.symm ne)];exact hq
 ):p:=h
theorem Hs {p:Prop} (h:p:=by
  go_wp2;go_ret;exact ⟨by rw [qdj,hb];simp;omega,F⟩
 ):p:=h
theorem Ht {p:Prop} (h:p:=by
  go_wp2_with fail;go_end0;exact ⟨rfl,h7,F7⟩
 ):p:=h
theorem Hu {p:Prop} (h:p:=by
  rw [qd hl];exact ⟨g,same,hx,hS⟩
 ):p:=h
theorem Hv {p:Prop} (h:p:=by
  simp only [Option.some.injEq] at e;rw [<- e];exact k
 ):p:=h
theorem Hw {p:Prop} (h:p:=by
  rw [hth i x hx] at k1;obtain ⟨y,e,-⟩:=k1;cases e
 ):p:=h
theorem Hy {p:Prop} (h:p:=by
  rw [hrp] at G;exact ⟨g',G,mk _ G.ext e1⟩
 ):p:=h
theorem Hz {p:Prop} (h:p:=by
  rcases hk with rfl | rfl <;> omega
 ):p:=h
theorem I0 {p:Prop} (h:p:=by
  exact Stp.of rfl HP.out.inn HM.out HA6.out HD6.out
 ):p:=h
theorem I1 {p:Prop} (h:p:=by
  go_wp2_with fail;go_end0;exact ⟨rfl,h2,D2⟩
 ):p:=h
theorem I2 {p:Prop} (h:p:=by
  exact ⟨hc,h0,h8,hl,fun _=>ht⟩
 ):p:=h
theorem I3 {p:Prop} (h:p:=by
  split <;> exact ⟨rfl,rfl,rfl⟩
 ):p:=h
theorem I4 {p:Prop} (h:p:=by
  exact Stp.of rfl h5.inn (fun k hk=>.inl hk) A5 D5
 ):p:=h
theorem I5 {p:Prop} (h:p:=by
  split <;> exact h.same rfl rfl
 ):p:=h
theorem I6 {p:Prop} (h:p:=by
  obtain ⟨c7,c8,c9,c12⟩:=(HK.out.up Ff).mc;obtain ⟨t1,t3,t4,t5,-⟩:=(HK.out.up Ff).tc;simp only [HZ.out.1,HZ.out.2.1,HZ.out.2.2,vg] at t3 t4 t5;have k3:=qb t3;have k4:=qb t4;have k5:=qb t5;have k7:=qb c7;have k9:=qb c9;have k12:=qb c12;exact Ab
 ):p:=h
theorem I7 {p:Prop} (h:p:=by
  have h5:=Ob.kept h1 F5 Lf;have D5:=zm D1 F5 Lc;clear A1 h1 D1 F5 A0 h0 D0;obtain ⟨c0,c1,c2,c3,c4,c5,c6,c7,c8⟩:=x8 h5;have z:=h5.frozen;have hn:y = { x with line:=3 }:=by rw [<- HY.out];unfold Sl.next;simp [hl]
  exact Ae
 ):p:=h
theorem I8 {p:Prop} (h:p:=by
  obtain rfl:=qi ho;refine zy rfl _ _ _ rfl _ _ rfl rfl rfl M7 (Qt Lb) (zz Lb Lb) (zz Lb Lb) ?_;intro w8 M8 F8;have D8:=D7.own F8 Ll;simp only [Act.put];clear M7 D7 F8 ho;refine ql ⟨D8,?_⟩;refine eoq 12 (fun w9 F9=>?_);exact Aa
 ):p:=h
theorem I9 {p:Prop} (h:p:=by
  obtain rfl:=qi ho;refine zy rfl _ _ _ rfl _ _ rfl rfl rfl M7 (Qt Lb) (zz Lb Lb) (zz Lb Lb) ?_;intro w8 M8 F8;have D8:=D7.own F8 Ll;simp only [Act.put];clear M7 D7 F8 ho;refine ql ⟨D8,?_⟩;refine eoq 3 (fun w9 F9=>?_);exact Aa
 ):p:=h
theorem Ia {p:Prop} (h:p:=by
  obtain rfl:=qi ho;refine zy rfl _ _ _ rfl _ _ rfl rfl rfl M7 (Qt Lb) (zz Lb Lb) (zz Lb Lb) ?_;intro w8 M8 F8;have D8:=D7.own F8 Ll;simp only [Act.put];clear M7 D7 F8 ho;refine ql ⟨D8,?_⟩;refine eoq 6 (fun w9 F9=>?_);exact Aa
 ):p:=h
theorem Ib {p:Prop} (h:p:=by
  obtain ⟨gl',ol',hgl,x0,x1,x2⟩:=xk (HL5.out.up Ff) hx;simp only [Option.some.injEq,Addr.mk.injEq] at hgl;obtain ⟨rfl,rfl,-⟩:=hgl;have j0:=qb x0;have j1:=qb x1;have j2:=qb x2;clear x0 x1 x2;exact Ab
 ):p:=h
theorem Ic {p:Prop} (h:p:=by
  obtain ⟨-,-,-,-,-,-,-,-,-,-,-,-,-,-,c14⟩:=qx (h.up Ff);have k14:=qb c14;have q0:=qb ((ob.up Ff).cell (i:=0) rfl);have q1:=qb ((ob.up Ff).cell (i:=1) rfl);have q2:=qb ((ob.up Ff).cell (i:=2) rfl);clear c14;exact Ab
 ):p:=h
theorem Ie {p:Prop} (h:p:=by
  have k7:=qb (Ff.cell c7 Lc);have k3:=qb (Ff.cell t3 Lc);have k4:=qb (Ff.cell t4 Lc);have k5:=qb (Ff.cell t5 Lc);exact Ab
 ):p:=h
theorem Ig {p:Prop} (h:p:=by
  go_wp2_with fail;go_ret;exact ⟨rfl,(Ob.set (Ob.set h5 _) (i:=7) (.int .i64 7)),(Rar.set (Rar.set A5 hp hq _) hp hq (i:=7) (.int .i64 7)),(Fr.setCell' (Fr.setCell' D5 _ Lc) (b:=b) (i:=7) (.int .i64 7) Lc)⟩
 ):p:=h
theorem Ih {p:Prop} (h:p:=by
  have hf:Z2 wf b x:=Ob.kept h Ff Lf;obtain ⟨-,-,-,-,c4,-,c6,-,c8,-⟩:=xc hf;have k4:=qb c4;have k6:=qb c6;have k8:=qb c8;clear c4 c6 c8;exact Ab
 ):p:=h
theorem Ii {p:Prop} (h:p:=by
  go_enter Tryz.func44,Tryz.ntmps44;exact Av
 ):p:=h
theorem Ij {p:Prop} (h:p:=by
  go_wp2_with fail;refine (H.out _).mono ?_;rintro e w1 ⟨rfl,rfl⟩;exact Av
 ):p:=h
theorem Ik {p:Prop} (h:p:=by
  have A7:=A6.kept F7 Li Lj;have D7:=zm D6 F7 Lc;clear h6 A6 D6 F7;exact Bi
 ):p:=h
theorem Il {p:Prop} (h:p:=by
  refine (Q0 _ p q _ 3 i (qw s.l i) false h).mono ?_;rintro e w2 ⟨rfl,A2,F2⟩;go_wp2;go_ret;exact ⟨rfl,A2,F2.mono⟩
 ):p:=h
theorem Im {p:Prop} (h:p:=by
  obtain ⟨-,-,-,-,-,-,-,-,c8,c9,-,-,-,-⟩:=ze hf;have k8:=qb c8;have k9:=qb c9;clear hf c8 c9;exact Ab
 ):p:=h
theorem Io {p:Prop} (h:p:=by
  have hn:y = { x with line:=0 }:=by rw [<- HY.out];unfold Cl.next;simp [hl,hv0];try omega
  exact Ae
 ):p:=h
theorem Ip {p:Prop} (h:p:=by
  refine wpQuiet_nil ?_;intro w2 F2;go_wp2_with fail;go_ret;exact ⟨by rw [HN.out];rfl,F2⟩
 ):p:=h
theorem Iq {p:Prop} (h:p:=by
  obtain ⟨-,-,-,-,-,-,-,-,c8⟩:=Ya (h.up Ff);have k8:=qb c8;clear c8;exact Ab
 ):p:=h
theorem Ir {p:Prop} (h:p:=by
  go_ret;exact ⟨rfl,(Ob.set h5 _),(Rar.set A5 hp hq _),(Fr.setCell' D5 _ Lc)⟩
 ):p:=h
theorem Iu {p:Prop} (h:p:=by
  have G:=((Fr.refl [] w).alloc _).trans F1;clear F1;go_wp2;go_ret;exact ⟨rfl,G⟩
 ):p:=h
theorem Iw {p:Prop} (h:p:=by
  go_ret;exact ⟨rfl,h7,A7,D7⟩
 ):p:=h
theorem Iy {p:Prop} (h:p:=by
  refine (R3 _ b _ h6).mono ?_;rintro e w7 ⟨rfl,h7,F7⟩;exact Bq
 ):p:=h
theorem Iz {p:Prop} (h:p:=by
  clear c0 c1 c2 c3 c4 c5 c6 c7 c8 c9 c10 c11 c12 c13 c14;exact Ab
 ):p:=h
theorem L8 {p:Prop} (h:p:=by
  go_enter Tryz.func60,Tryz.ntmps60;exact Ct
 ):p:=h
theorem L9 {p:Prop} (h:p:=by
  split
  ·rfl
  ·split
   ·rfl
   ·split <;> rfl
 ):p:=h
theorem La {p:Prop} (h:p:=by
  repeat (go_big_quiet_step (fail))
  exact wpQuiet_nil rfl
 ):p:=h
end Go.Proofs.YtleclbldlladmaaGreat
namespace Go.Proofs.YtleclbldlladmaaGreat
theorem q9 {p:Prop} (h:p):RowKit.Hid p:=Lib.hid h
theorem qc {a b:Prop} (h:a) (k:b):a/\b:=⟨h,k⟩
theorem qd.{u} {c:Prop} {h:Decidable c} (n:¬c) {α:Sort u} {t e:α}:ite c t e=e:=if_neg n
theorem qf.{u} {c:Prop} {h:Decidable c} (n:c) {α:Sort u} {t e:α}:ite c t e=t:=if_pos n
theorem qg.{u} {α:Sort u} {p:α->Prop} (w:α) (h:p w):Exists p:=⟨w,h⟩
theorem qh {n m k:Nat} (h:n<=m) (g:m<=k):n<=k:=Nat.le_trans h g
theorem qi.{u} {α:Type u} {a b:α} (h:some a=some b):a=b:=Option.some.inj h
theorem qj {n m k:Nat} (h:n<m) (g:m<=k):n<k:=Nat.lt_of_lt_of_le h g
end Go.Proofs.YtleclbldlladmaaGreat
set_option linter.unusedVariables false
set_option linter.unusedSimpArgs false
set_option maxRecDepth 100000
set_option maxHeartbeats 12800000
namespace Go.Proofs.YtleclbldlladmaaGreat.Ar
open Go.RowKit
structure Fr (S:List Nat) (w w':World):Prop where
 os:w'.os=w.os
 tape:w'.tape=w.tape
 output:w'.output=w.output
 size:w.heap.size<=w'.heap.size
 block:∀ k,k<w.heap.size->k∉S->w'.heap[k]? = w.heap[k]?
theorem Fr.refl (S:List Nat) (w:World):Fr S w w:=⟨rfl,rfl,rfl,Nat.le_refl _,fun _ _ _=>rfl⟩
theorem Fr.trans {S:List Nat} {a b c:World} (h:Fr S a b) (k:Fr S b c):Fr S a c :=
 ⟨k.os.trans h.os,k.tape.trans h.tape,k.output.trans h.output,qh h.size k.size,fun i hi hn=>(k.block i (qj hi h.size) hn).trans (h.block i hi hn)⟩
theorem Fr.mono {S T:List Nat} {a b:World} (h:Fr S a b) (hs:∀ k,k∈S->k∈T:=by simp):Fr T a b :=
 ⟨h.os,h.tape,h.output,h.size,fun i hi hn=>h.block i hi (fun e=>hn (hs i e))⟩
theorem Fr.own {S:List Nat} {a b c:World} (h:Fr [] a b) (k:Fr S b c) (hs:∀ i,i∈S->a.heap.size<=i):Fr [] a c :=
 ⟨k.os.trans h.os,k.tape.trans h.tape,k.output.trans h.output,qh h.size k.size,fun i hi _=>(k.block i (qj hi h.size) (fun e=>Nat.not_le_of_lt hi (hs i e))).trans (h.block i hi Lc)⟩
theorem Fr.own2 {p q:Nat} {a b c:World} (h:Fr [] a b) (k:Fr [p,q] b c) (hp:a.heap.size<=p) (hq:a.heap.size<=q):Fr [] a c :=
 h.own k (by intro i hi;simp at hi;rcases hi with rfl | rfl <;> assumption)
theorem Fr.drew {S:List Nat} {a w:World} (h:Fr S a w):Fr S a w.drew:=⟨h.os,h.tape,h.output,h.size,h.block⟩
theorem Fr.heap {S:List Nat} {w w':World} {b:Nat} {o:Obj} (f:Fr S w w') (h:w.heap[b]? = some o) (hn:b∉S):w'.heap[b]? = some o:=(f.block b (Array.getElem?_eq_some_iff.1 h).1 hn).trans h
theorem Fr.below {w w':World} (f:Fr [] w w'):Below w.heap.size w w':=⟨f.os,f.tape,f.output,f.size,fun k hk=>f.block k hk Lc⟩
theorem Fr.setCell {S:List Nat} {w:World} {b i:Nat} (v:Value) (h:b∈S):Fr S w (w.setCell ⟨b,i,none⟩ v) :=
 ⟨rfl,rfl,rfl,by simp,fun k _ hn=>heap_setCell_other _ _ _ _ (fun e=>hn (by rw [e];exact h))⟩
theorem Fr.setCell' {S:List Nat} {a w:World} (h:Fr S a w) {b i:Nat} (v:Value) (hb:b∈S):Fr S a (w.setCell ⟨b,i,none⟩ v):=h.trans (Fr.setCell v hb)
theorem Fr.alloc {S:List Nat} {a w:World} (h:Fr S a w) (o:Obj):Fr S a (w.alloc o) :=
 h.trans ⟨rfl,rfl,rfl,by simp,fun k hk _=>heap_alloc_old w o hk⟩
theorem Fr.grown {w w':World} (h:w.grownBy w' none):Fr [] w w':=⟨h.os,h.tape,h.output,h.size,fun k hk _=>h.block k hk Lc⟩
theorem X6 {P:Program} {ops:Array Oper} {C:World->Prop} {Q Q':Act->Prop} (h:∀ a,Q a->Q' a):∀ (l:List Oper) (a:Act),wpQuiet P ops C Q l a->wpQuiet P ops C Q' l a
 | [],a,hh=>h a hh
 | o :: rest,a,hh=>by
  unfold wpQuiet at hh ⊢;split
  ·rename_i hw;rw [qf hw] at hh;exact Oper.quiet_mono (X6 h rest) hh
  ·rename_i hw;rw [qd hw] at hh;exact X6 h rest _ hh
theorem Fr.then {S:List Nat} {a b c:World} (h:Fr S a b) (k:Fr [] b c):Fr S a c:=h.trans (k.mono Lc)
theorem Fr.drewN {S:List Nat} {a w:World} (h:Fr S a w) (n:Nat):Fr S a (w.drewN n):=⟨h.os,h.tape,h.output,h.size,h.block⟩
theorem Fr.cell {S:List Nat} {w w':World} (f:Fr S w w') {b i:Nat} {v:Value} (h:w.cell? ⟨b,i,none⟩=some v) (hn:b∉S):w'.cell? ⟨b,i,none⟩=some v :=
 (World.cell?_of_block (f.block b (World.block_lt_of_cell? w _ h) hn)).trans h
theorem q2c {k:IntKind} {a b:Int} (h:a=b):Ending.returned (.int k a) = .returned (.int k b):=by rw [h]
def In (w:World):Type:={ x:World // Fr [] w x }
def In.at_ {w:World} (s:In w):World:=s.1
theorem In.fr {w:World} (s:In w):Fr [] w s.at_:=s.2
instance (w:World):Nonempty (In w):=⟨⟨w,Fr.refl _ _⟩⟩
theorem qb {w:World} {b i:Nat} {v:Value} (h:w.cell? ⟨b,i,none⟩=some v) (s:In w):s.at_.cell? ⟨b,i,none⟩=some v:=s.fr.cell h Lc
theorem R5 {P:Program} {id:Nat} {Q:Exit->Act->World->Prop} {a:Act} {w:World} {l:List Oper} (hm:P.follows .mixedOrders=true) (hB:Region.lexB .any l.toArray=true)
  (h:wpQuiet P l.toArray (fun w'=>∃ s:In w,w'=s.at_) (fun a'=>∀ w',Fr [] w w'->Q .normal a' w') l a):(Code.region id l.toArray true).wp P Q a w :=
 wp_region_quiet (C:=fun w'=>∃ s:In w,w'=s.at_) hm hB ⟨⟨_,(Fr.refl [] w).drew⟩,rfl⟩ (X6 (fun a h w' hw=>by obtain ⟨s,rfl⟩:=hw;exact h _ s.fr) _ _ P5)
theorem wiq {P:Program} {id:Nat} {Q:Exit->Act->World->Prop} {a:Act} {w:World} {l:List Oper} (h:wpQuiet P l.toArray (fun w'=>∃ s:In w,w'=s.at_) (fun a'=>∀ w',Fr [] w w'->Q .normal a' w') l a) (hm:P.follows .mixedOrders=true:=by kernel_rfl) (hB:Region.lexB .any l.toArray=true:=by kernel_rfl):(Code.region id l.toArray true).wp P Q a w:=R5 hm hB h
theorem Calls.in_ {P:Program} {f:FuncId} {args:Array Value} {w:World} {s:In w} {v:Value}
  (h:Calls P f args s.at_ fun e w'=>e = .returned v/\Fr [] s.at_ w'):Calls P f args s.at_ fun e w''=>e = .returned v/\∃ s':In w,w''=s'.at_ :=
 h.mono fun _ _ ⟨he,hf⟩=>⟨he,⟨⟨_,s.fr.trans hf⟩,rfl⟩⟩
theorem Calls.in_same {P:Program} {f:FuncId} {args:Array Value} {w:World} {s:In w} {v:Value}
  (h:Calls P f args s.at_ fun e w'=>e = .returned v/\s.at_=w'):Calls P f args s.at_ fun e w''=>e = .returned v/\∃ s':In w,w''=s'.at_ :=
 h.mono fun _ _ ⟨he,hf⟩=>⟨he,⟨s,hf.symm⟩⟩
section
variable {P:Program} {ops:Array Oper} {Q:Exit->Act->World->Prop} {md:Region.Mode} {w0:World} {S:List Nat}
def Env (P:Program) (md:Region.Mode) (ops:Array Oper) (Q:Exit->Act->World->Prop) (S:List Nat) (w0:World):Nat->Array Bool->Act->World->Prop
 | 0,listed,a,w=>∀ w2,Fr [] w w2->Region.ready md ops listed=[]/\Q .normal a w2
 | f+1,listed,a,w=>∀ w2,Fr [] w w2->(Region.ready md ops listed=[]->Q .normal a w2) /\
   ∀ i∈Region.ready md ops listed,wpOp P ops Q i (fun a' w'=>Fr S w0 w'/\Env P md ops Q S w0 f (listed.setIfInBounds i true) a' w') a w2
theorem Env.more {f:Nat} {listed:Array Bool} {a:Act} {w w':World} (h:Env P md ops Q S w0 f listed a w) (g:Fr [] w w'):Env P md ops Q S w0 f listed a w':=by
 cases f with
 | zero=>exact fun w2 h2=>h w2 (g.trans h2)
 | succ f=>exact fun w2 h2=>h w2 (g.trans h2)
theorem Env.sound:∀ (f:Nat) (listed:Array Bool) (a:Act) (w:World),Env P md ops Q S w0 f listed a w->wpAny P md ops Q f listed a w
 | 0,_,_,w,h=>h w (Fr.refl _ _)
 | f+1,_,_,w,h=>⟨(h w (Fr.refl _ _)).1,fun i hi=>wpOp_mono (fun a' w' hh=>Env.sound f _ a' w' hh.2) ((h w (Fr.refl _ _)).2 i hi)⟩
def U4 (P:Program) (ops:Array Oper) (S:List Nat) (w0:World) (o:Oper) (v:Value) (a:Act):Prop :=
 (Region.wanted o (yielded ops a.tmps)=true/\∀ w,Fr S w0 w->∃ u,o.quietAt P a (fun w'=>Fr [] w w') w u/\(o.dst=none\/u=v)) \/
 (Region.wanted o (yielded ops a.tmps)=false/\v=undef)
theorem Zr {a:Act} {d:Option Tmp} {u v:Value} (h:d=none\/u=v):a.put d u=a.put d v:=by rcases h with rfl | rfl <;> rfl
theorem Vv {o:Oper} {a:Act} {w:World} {v:Value} {K:Act->World->Prop} (hu:o.quietAt P a (fun w'=>Fr [] w w') w v) (h:∀ w',Fr [] w w'->K (a.put o.dst v) w'):o.wp P a w K Q:=by
 unfold Oper.quietAt at hu;unfold Oper.wp;generalize (execOp a.eval o).run P w=r at *;cases r with
 | ok n w' =>
  cases n <;> simp only [Oper.quietUpon] at hu <;> simp only [Oper.upon];case value u=>obtain ⟨e1,e2⟩:=hu;rw [e1,e2];exact h _ (Fr.refl _ _)
  case skip=>obtain ⟨e1,e2⟩:=hu;rw [e1,<- e2];exact h _ (Fr.refl _ _)
  case enter f args=>obtain ⟨e1,hc⟩:=hu;rw [e1];exact hc.mono fun e w'' ⟨he,hw''⟩=>by subst he;exact h _ hw''
 | halt x w'=>simp only [Oper.quietUpon] at hu
theorem U4.wpOp {i:Nat} {o:Oper} {v:Value} {a:Act} (hi:ops[i]? = some o) (hy:U4 P ops S w0 o v a) {K:Act->World->Prop} {w:World} (hw:Fr S w0 w)
  (h:∀ w',Fr [] w w'->K (a.put o.dst v) w'):wpOp P ops Q i K a w:=by
 exact Bs
theorem U4.of_same {o:Oper} {v:Value} {a a':Act} (hy:U4 P ops S w0 o v a) (he:execOp a'.eval o=execOp a.eval o)
  (hw:Region.wanted o (yielded ops a'.tmps)=Region.wanted o (yielded ops a.tmps)):U4 P ops S w0 o v a':=by
 unfold U4 Oper.quietAt at *;rw [he,hw];exact hy
theorem U4.other {j:Nat} {oi oj:Oper} {v:Value} (hj:ops[j]? = some oj) (hap:oi.apart ops oj=true)
  (hsi:∀ cs b,oi.op ≠ .select cs b) (hsj:∀ cs b,oj.op ≠ .select cs b)
  (hQ:∀ c a d v w,Q (.panic c) (a.put d v) w->Q (.panic c) a w) {K:Act->World->Prop} {a:Act} {w:World}
  (hy:U4 P ops S w0 oi v a) (h:Go.wpOp P ops Q j K (a.put oi.dst v) w) :
  Go.wpOp P ops Q j (fun a' w'=>U4 P ops S w0 oi v a'/\K (a'.put oi.dst v) w') a w:=by
 obtain ⟨h1,h2,h3⟩:=Oper.apart_spec hap
 have keep:∀ (a:Act),U4 P ops S w0 oi v a->∀ u,U4 P ops S w0 oi v (a.put oj.dst u):=fun a hy u =>
  hy.of_same (execOp_put oi hsi a oj.dst u h3) (wanted_put oi a oj.dst u h3)
 have keepD:∀ d,U4 P ops S w0 oi v { a with defers:=d :: a.defers }:=fun d=>hy.of_same rfl rfl
 exact Ad
theorem Env.first {i:Nat} {oi:Oper} {v:Value} (hi:ops[i]? = some oi) (hsel:Region.noSelect ops=true)
  (hQ:∀ c a d v w,Q (.panic c) (a.put d v) w->Q (.panic c) a w):∀ (f:Nat) (listed:Array Bool) (a:Act) (w:World),
   (∀ j oj,ops[j]? = some oj->j≠i->listed.getD j true=false->(∀ e∈oj.after,Region.binds md e=true->e.on≠i)->oi.apart ops oj=true) ->
   i∈Region.ready md ops listed->U4 P ops S w0 oi v a->Fr S w0 w ->
   Env P md ops Q S w0 f (listed.setIfInBounds i true) (a.put oi.dst v) w->Env P md ops Q S w0 (f+1) listed a w
 | f,listed,a,w,hfree,hr,hy,hw,H=>fun w2 h2=>by
  refine ⟨fun h=>Np,fun j hj=>?_⟩;by_cases hji:j=i
  ·exact Co
  ·have hj':=ready_mono (i:=i) hj hji;cases f with
   | zero=>have:=(H w2 h2).1;rw [this] at hj';cases hj'
   | succ f =>
    have h1:=(H w2 h2).2 j hj';obtain ⟨hjun,oj,hoj,hall⟩:=mem_ready.1 hj
    have hnot:∀ e∈oj.after,Region.binds md e=true->e.on≠i:=fun e he hb heq=>Ap
    have g2:=hy.other hoj (hfree j oj hoj hji hjun hnot) (fun cs b=>Region.noSelect_spec hsel i oi cs b hi) (fun cs b=>Region.noSelect_spec hsel j oj cs b hoj) hQ h1
    have hfree':∀ k ok,ops[k]? = some ok->k≠i->(listed.setIfInBounds j true).getD k true=false ->
      (∀ e∈ok.after,Region.binds md e=true->e.on≠i)->oi.apart ops ok=true:=fun k ok hk hki hun hno=>by
     refine hfree k ok hk hki ?_ hno
     by_cases hjk:j=k
     ·subst hjk;exact hjun
     ·rw [getD_set_ne true hjk] at hun;exact hun
    refine wpOp_mono (fun a' w' h3=>⟨h3.2.1,Env.first hi hsel hQ f (listed.setIfInBounds j true) a' w' hfree' (ready_mono hr (Ne.symm hji)) h3.1 h3.2.1 ?_⟩) g2;exact Dw
def sel:List Bool->List Oper->List Oper
 | true :: m,o :: r=>o :: sel m r
 | false :: m,_ :: r=>sel m r
 | _,_=>[]
def Qj (md:Region.Mode) (ops:Array Oper):Nat->List Bool->Array Bool->Bool
 | k,true :: m,listed=>(Region.ready md ops listed).contains k && Region.free md ops listed k && Qj md ops (k+1) m (listed.setIfInBounds k true)
 | k,false :: m,listed=>Qj md ops (k+1) m listed
 | _,[],_=>true
def Vd:Nat->List Bool->Array Bool->Array Bool
 | k,true :: m,listed=>Vd (k+1) m (listed.setIfInBounds k true)
 | k,false :: m,listed=>Vd (k+1) m listed
 | _,[],listed=>listed
def countB:List Bool->Nat
 | true :: m=>countB m+1
 | false :: m=>countB m
 | []=>0
def Tu (n:Nat):List Oper->Bool
 | []=>true
 | o :: r=>(match o.dst with | some d=>decide (d<n) && r.all fun x=>x.dst != some d | none=>true) && Tu n r
theorem size_put (a:Act) (d:Option Tmp) (v:Value):(a.put d v).tmps.size=a.tmps.size:=by cases d <;> simp [Act.put]
theorem vq {C:World->Prop} {aE:Act} {d:Nat}:∀ (l:List Oper) (a:Act),(l.all fun x=>x.dst != some d)=true->wpQuiet P ops C (fun a'=>a'=aE) l a->aE.tmps[d]? = a.tmps[d]?
 | [],a,_,h=>by rw [show a=aE from h]
 | o :: r,a,hd,h=>by
  simp only [List.all_cons,Bool.and_eq_true] at hd
  have hput:∀ v,(a.put o.dst v).tmps[d]? = a.tmps[d]?:=fun v=>by
   cases ho:o.dst with
   | none=>rfl
   | some e =>
    have hne:e≠d:=fun he=>by subst he;rw [ho] at hd;simp at hd
    simp [Act.put,Array.getElem?_setIfInBounds_ne hne]
  unfold wpQuiet at h;split at h
  ·obtain ⟨v,_,h2⟩:=h;exact (vq r _ hd.2 h2).trans (hput v)
  ·exact (vq r _ hd.2 h).trans (hput _)
theorem Qk (hs:Region.noSelect ops=true) (hQ:∀ c a d v w,Q (.panic c) (a.put d v) w->Q (.panic c) a w) {aE:Act} {n f:Nat} :
  ∀ (m:List Bool) (L:List Oper) (k:Nat) (listed:Array Bool) (a:Act) (w:World),(∀ j,L[j]? = ops[k+j]?)->Qj md ops k m listed=true->Tu n (sel m L)=true->a.tmps.size=n->Fr S w0 w ->
   (∀ wf,Fr S w0 wf->wpQuiet P ops (fun w'=>∃ s:In wf,w'=s.at_) (fun a'=>a'=aE) (sel m L) a)->Env P md ops Q S w0 f (Vd k m listed) aE w->Env P md ops Q S w0 (f+countB m) listed a w
 | [],L,k,listed,a,w,_,_,_,_,_,h,H=>by
  exact De
 | false :: m,[],k,listed,a,w,hL,hB,hd,hn,hw,h,H=>Qk hs hQ m [] (k+1) listed a w (fun j=>by have:=hL (j+1);simpa [Nat.add_assoc,Nat.add_comm 1 j] using this) hB Ma hn hw (fun wf hf=>by have:=h wf hf;cases m with | nil=>exact this | cons b m=>cases b <;> exact this) H
 | false :: m,o :: L,k,listed,a,w,hL,hB,hd,hn,hw,h,H=>Qk hs hQ m L (k+1) listed a w (fun j=>by have:=hL (j+1);simpa [Nat.add_assoc,Nat.add_comm 1 j] using this) hB hd hn hw h H
 | true :: m,[],k,listed,a,w,hL,hB,_,_,_,_,_=>by
  exfalso
  simp only [Qj,Bool.and_eq_true] at hB
  have hr:k∈Region.ready md ops listed:=by simpa using hB.1.1
  obtain ⟨_,o,ho,_⟩:=mem_ready.1 hr
  have:=hL 0
  simp [ho] at this
 | true :: m,o :: L,k,listed,a,w,hL,hB,hd,hn,hw,h,H=>by
  have h0:ops[k]? = some o:=by simpa using (hL 0).symm
  simp only [Qj,Bool.and_eq_true] at hB
  obtain ⟨⟨hr,hf⟩,hB'⟩:=hB
  simp only [sel,Tu,Bool.and_eq_true] at hd
  obtain ⟨hd1,hd2⟩:=hd
  have key:∃ v,U4 P ops S w0 o v a/\∀ wf,Fr S w0 wf->wpQuiet P ops (fun w'=>∃ s:In wf,w'=s.at_) (fun a'=>a'=aE) (sel m L) (a.put o.dst v):=by
   by_cases hw1:Region.wanted o (yielded ops a.tmps)=true
   ·have h':∀ wf,Fr S w0 wf->o.quiet P a (fun w'=>∃ s:In wf,w'=s.at_) (wpQuiet P ops (fun w'=>∃ s:In wf,w'=s.at_) (fun a'=>a'=aE) (sel m L)):=fun wf hf=>by
     have:=h wf hf
     simp only [sel,wpQuiet] at this
     rwa [qf hw1] at this
    obtain ⟨v,_,hv2⟩:=h' w0 (Fr.refl _ _)
    have same:∀ wf,Fr S w0 wf->∀ u,wpQuiet P ops (fun w'=>∃ s:In wf,w'=s.at_) (fun a'=>a'=aE) (sel m L) (a.put o.dst u)->o.dst=none\/u=v:=fun wf hf u hu=>by
     cases hod:o.dst with
     | none=>exact .inl rfl
     | some d =>
      rw [hod] at hd1 hu hv2
      simp only [Bool.and_eq_true,decide_eq_true_eq] at hd1
      have e1:=vq (sel m L) _ hd1.2 hu
      have e2:=vq (sel m L) _ hd1.2 hv2
      have hlt:d<a.tmps.size:=by rw [hn];exact hd1.1
      rw [e1] at e2
      simp [Act.put,hlt] at e2
      exact .inr e2
    refine ⟨v,.inl ⟨hw1,fun wf hf=>?_⟩,fun wf hf=>?_⟩
    ·obtain ⟨u,hu1,hu2⟩:=h' wf hf
     refine ⟨u,?_,same wf hf u hu2⟩
     have hq:=hu1 wf ⟨⟨wf,Fr.refl _ _⟩,rfl⟩
     unfold Oper.quietAt at hq ⊢
     generalize (execOp a.eval o).run P wf=r at *
     cases r with
     | ok x w' =>
      cases x <;> simp only [Oper.quietUpon] at hq ⊢
      case value=>exact hq
      case skip=>exact hq
      case enter g args=>exact ⟨hq.1,hq.2.mono fun e w'' ⟨he,s,hs⟩=>⟨he,hs ▸ s.fr⟩⟩
     | halt x w'=>exact hq
    ·obtain ⟨u,_,hu2⟩:=h' wf hf
     rw [<- Zr (same wf hf u hu2)];exact hu2
   ·refine ⟨undef,.inr ⟨by simpa using hw1,rfl⟩,fun wf hf=>?_⟩
    have:=h wf hf
    simp only [sel,wpQuiet] at this
    rwa [qd hw1] at this
  obtain ⟨v,hy,hK⟩:=key
  exact Env.first h0 hs hQ (f+countB m) listed a w (Region.free_spec h0 hf) O0 hy hw
   (Qk hs hQ m L (k+1) _ _ w (fun j=>by have:=hL (j+1);simpa [Nat.add_assoc,Nat.add_comm 1 j] using this) hB' hd2 Nl hw hK H)
end
section
variable {P:Program} {l:List Oper} {Q:Exit->Act->World->Prop} {w0:World} {S:List Nat}
theorem z7 {id:Nat} {a:Act} {w:World} (hm:P.follows .mixedOrders=true) (S:List Nat) (h:∀ w1,Fr [] w w1->Env P .any l.toArray Q S w l.length (Array.replicate l.length false) a w1):(Code.region id l.toArray true).wp P Q a w :=
 wp_region_any hm (by simpa using Env.sound _ _ _ _ (h w.drew (Fr.refl [] w).drew))
theorem Z7 (m:List Bool) (f:Nat) {g n:Nat} {listed listed':Array Bool} {a:Act} {w:World} (hf:f+countB m=g) (hs:Region.noSelect l.toArray=true) (hB:Qj .any l.toArray 0 m listed=true)
  (hd:Tu n (sel m l)=true) (hn:a.tmps.size=n) (hl:Vd 0 m listed=listed') (hQ:∀ c a d v w,Q (.panic c) (a.put d v) w->Q (.panic c) a w) (hw:Fr S w0 w)
  (h:∃ aE,(∀ wf,Fr S w0 wf->wpQuiet P l.toArray (fun w'=>∃ s:In wf,w'=s.at_) (fun a'=>a'=aE) (sel m l) a)/\Env P .any l.toArray Q S w0 f listed' aE w):Env P .any l.toArray Q S w0 g listed a w:=by
 subst hf;subst hl;obtain ⟨aE,h,H⟩:=h;exact Qk hs hQ m l 0 listed a w Lc hB hd hn hw h H
theorem epq (m:List Bool) (f:Nat) {g n:Nat} {listed listed':Array Bool} {a:Act} {w:World} (hw:Fr S w0 w) (h:∃ aE,(∀ wf,Fr S w0 wf->wpQuiet P l.toArray (fun w'=>∃ s:In wf,w'=s.at_) (fun a'=>a'=aE) (sel m l) a)/\Env P .any l.toArray Q S w0 f listed' aE w) (hn:a.tmps.size=n:=by exact rfl) (hl:Vd 0 m listed=listed':=by exact rfl) (hf:f+countB m=g:=by exact rfl) (hs:Region.noSelect l.toArray=true:=by kernel_rfl) (hB:Qj .any l.toArray 0 m listed=true:=by kernel_rfl) (hd:Tu n (sel m l)=true:=by kernel_rfl) (hQ:∀ c a d v w,Q (.panic c) (a.put d v) w->Q (.panic c) a w:=by intro _ _ d _ _ h;cases d <;> exact h):Env P .any l.toArray Q S w0 g listed a w:=Z7 m f hf hs hB hd hn hl hQ hw h
def Nx (Q:Exit->Act->World->Prop) (K:Act->World->Prop):Exit->Act->World->Prop
 | .normal,a,w=>K a w
 | e,a,w=>Q e a w
theorem Qd {i:Nat} {o:Oper} {a:Act} {w:World} {K:Act->World->Prop} (ho:l[i]? = some o) (hl:LetsOut (Nx Q K)->LetsOut Q) (h:wpList P l.toArray (Nx Q K) [o] a w):wpOp P l.toArray Q i K a w:=by
 unfold wpOp;simp only [List.getElem?_toArray,ho];simp only [wpList] at h;split
 ·rename_i hw;rw [qf hw] at h;refine h.imp (fun h=>?_) (fun ⟨h1,h2⟩=>⟨h1,hl h2⟩);unfold Oper.wp at *;generalize (execOp a.eval o).run P w=r at *;cases r with
  | ok n w' =>
   cases n <;> simp only [Oper.upon] at h ⊢ <;> exact h
  | halt x w'=>cases x <;> simp only [Oper.upon] at h ⊢ <;> exact h
 ·rename_i hw;rw [qd hw] at h;exact h
theorem Zl {K:Act->World->Prop}:LetsOut (Nx Q K)->LetsOut Q:=fun ⟨a,w,h⟩=>⟨a,w,h⟩
theorem jd (rs:List Nat) {f:Nat} {listed:Array Bool} {a:Act} {w:World} (hr:Region.ready .any l.toArray listed=rs) (hne:rs≠[])
  (h:∀ w2,Fr [] w w2->∀ i∈rs,∀ o,l[i]? = some o->wpList P l.toArray (Nx Q (fun a' w'=>Fr S w0 w'/\Env P .any l.toArray Q S w0 f (listed.setIfInBounds i true) a' w')) [o] a w2):Env P .any l.toArray Q S w0 (f+1) listed a w:=by
 intro w2 h2;refine ⟨fun h0=>absurd (hr.symm.trans h0) hne,fun i hi=>?_⟩;exact Dh
theorem qah (i:Nat) {o:Oper} {f:Nat} {listed listed':Array Bool} {a:Act} {w:World} (hr:Region.ready .any l.toArray listed=[i]) (ho:l[i]? = some o) (hl:listed.setIfInBounds i true=listed')
  (h:∀ w2,Fr [] w w2->wpList P l.toArray (Nx Q (fun a' w'=>Fr S w0 w'/\Env P .any l.toArray Q S w0 f listed' a' w')) [o] a w2):Env P .any l.toArray Q S w0 (f+1) listed a w:=by
 subst hl;refine jd [i] hr Lc fun w2 h2 j hj x hx=>?_
 simp only [List.mem_singleton] at hj;subst hj;rw [ho] at hx;cases hx;exact h w2 h2
theorem eoq (i:Nat) {o:Oper} {f:Nat} {listed listed':Array Bool} {a:Act} {w:World} (h:∀ w2,Fr [] w w2->wpList P l.toArray (Nx Q (fun a' w'=>Fr S w0 w'/\Env P .any l.toArray Q S w0 f listed' a' w')) [o] a w2) (hl:listed.setIfInBounds i true=listed':=by exact rfl) (hr:Region.ready .any l.toArray listed=[i]:=by kernel_rfl) (ho:l[i]? = some o:=by exact rfl):Env P .any l.toArray Q S w0 (f+1) listed a w:=qah i hr ho hl h
theorem zr {f:Nat} {listed:Array Bool} {a:Act} {w:World} (hr:Region.ready .any l.toArray listed=[]) (h:∀ w2,Fr [] w w2->Q .normal a w2):Env P .any l.toArray Q S w0 f listed a w:=by
 cases f with
 | zero=>exact fun w2 h2=>⟨hr,h w2 h2⟩
 | succ f=>exact fun w2 h2=>⟨fun _=>h w2 h2,fun i hi=>by rw [hr] at hi;cases hi⟩
theorem ql {K:Act->World->Prop} {a:Act} {w:World} (h:K a w):Nx Q K .normal a w:=h
def subs:List Nat->List (List Nat)
 | []=>[[]]
 | x :: r=>subs r++(subs r).map (x :: ·)
theorem q81 {is rem:List Nat} (h:rem.Sublist is):rem∈subs is:=by
 induction h with
 | slnil=>simp [subs]
 | cons a _ ih=>simp [subs,ih]
 | cons_cons a _ ih=>simp [subs,ih]
def Kt (L0:Array Bool) (is rem:List Nat):Array Bool:=is.foldl (fun L i=>if rem.contains i then L else L.setIfInBounds i true) L0
def bagB (md:Region.Mode) (ops:Array Oper) (L0:Array Bool) (is:List Nat):Bool :=
 (subs is).all fun rem=>(rem == [] || Region.ready md ops (Kt L0 is rem) == rem) && rem.all fun i=>(Kt L0 is rem).setIfInBounds i true == Kt L0 is (rem.erase i)
theorem env_bag (is:List Nat) (L0:Array Bool) (I:List Nat->World->Prop) {f:Nat} {a:Act} (hB:bagB .any l.toArray L0 is=true)
  (hmore:∀ rem w w2,I rem w->Fr [] w w2->I rem w2)
  (hstep:∀ rem w,rem.Sublist is->I rem w->∀ i∈rem,∀ o,l[i]? = some o->wpList P l.toArray (Nx Q (fun a' w'=>a'=a/\Fr S w0 w'/\I (rem.erase i) w')) [o] a w)
  (hend:∀ w,I [] w->Env P .any l.toArray Q S w0 f (Kt L0 is []) a w) :
  ∀ (n:Nat) (rem:List Nat) (w:World),rem.length=n->rem.Sublist is->I rem w->Env P .any l.toArray Q S w0 (f+n) (Kt L0 is rem) a w:=by
 intro n;induction n with
 | zero=>intro rem w hl hs hI;obtain rfl:=List.eq_nil_of_length_eq_zero hl;exact hend w hI
 | succ n ih =>
  intro rem w hl hs hI;have hb:=List.all_eq_true.1 hB rem (q81 hs);simp only [Bool.and_eq_true,Bool.or_eq_true,beq_iff_eq] at hb;have hne:rem≠[]:=by intro e;subst e;simp at hl
  have hr:=hb.1.resolve_left hne;have he:=List.all_eq_true.1 hb.2;intro w2 h2;refine ⟨fun h0=>absurd (hr.symm.trans h0) hne,fun i hi=>?_⟩;have hi':=hi;rw [hr] at hi';obtain ⟨_,o,ho,_⟩:=mem_ready.1 hi;have ho':l[i]? = some o:=by simpa using ho
  have hi2:=he i hi';simp only [beq_iff_eq] at hi2;rw [hi2];refine wpOp_mono (fun a' w' ⟨h1,h2,h3⟩=>?_) (Qd ho' Zl (hstep rem w2 hs (hmore _ _ _ hI h2) i hi' o ho'));subst h1;exact ⟨h2,ih _ _ (by rw [List.length_erase_of_mem hi'];omega) ((List.erase_sublist).trans hs) h3⟩
end
section
variable {P:Program} {ops:Array Oper} {Q:Exit->Act->World->Prop} {md:Region.Mode} {w0:World} {S:List Nat} {LA:Array Bool} {g:Nat}
def Z0 (P:Program) (md:Region.Mode) (ops:Array Oper) (Q:Exit->Act->World->Prop) (S:List Nat) (w0:World) (LA:Array Bool) (g:Nat):Nat->Array Bool->Act->World->Prop
 | 0,listed,a,w=>∀ w2,Fr [] w w2->listed=LA/\wpAny P md ops Q g LA a w2
 | f+1,listed,a,w=>∀ w2,Fr [] w w2->Region.ready md ops listed≠[] /\
   ∀ i∈Region.ready md ops listed,wpOp P ops Q i (fun a' w'=>Fr S w0 w'/\Z0 P md ops Q S w0 LA g f (listed.setIfInBounds i true) a' w') a w2
theorem Z0.more {f:Nat} {listed:Array Bool} {a:Act} {w w':World} (h:Z0 P md ops Q S w0 LA g f listed a w) (k:Fr [] w w'):Z0 P md ops Q S w0 LA g f listed a w':=Eu
theorem Z0.sound:∀ (f:Nat) (listed:Array Bool) (a:Act) (w:World),Z0 P md ops Q S w0 LA g f listed a w->wpAny P md ops Q (f+g) listed a w
 | 0,listed,a,w,h=>by obtain ⟨rfl,h1⟩:=h w (Fr.refl _ _);rw [Nat.zero_add];exact h1
 | f+1,_,_,w,h=>by
  rw [show f+1+g=(f+g)+1 by omega];exact ⟨fun h0=>absurd h0 (h w (Fr.refl _ _)).1,fun i hi=>wpOp_mono (fun a' w' hh=>Z0.sound f _ a' w' hh.2) ((h w (Fr.refl _ _)).2 i hi)⟩
def W9 (md:Region.Mode) (ops:Array Oper) (LA:Array Bool) (i:Nat):Bool:=(List.range LA.size).all fun j=>LA.getD j true || Region.waitsFor md ops j i
theorem Xk {i j:Nat} (h:W9 md ops LA i=true) (hj:LA.getD j true=false):∃ oj,ops[j]? = some oj/\∃ e∈oj.after,Region.binds md e=true/\e.on=i:=by
 unfold W9 at h
 have hlt:j<LA.size:=by
  rcases Nat.lt_or_ge j LA.size with h' | h'
  ·exact h'
  ·simp [Array.getElem?_eq_none h'] at hj
 have:=List.all_eq_true.1 h j (List.mem_range.2 hlt);rw [hj] at this;exact Region.waitsFor_spec (by simpa using this)
theorem Z0.first {i:Nat} {oi:Oper} {v:Value} (hi:ops[i]? = some oi) (hsel:Region.noSelect ops=true) (hLB:W9 md ops LA i=true)
  (hQ:∀ c a d v w,Q (.panic c) (a.put d v) w->Q (.panic c) a w):∀ (f:Nat) (listed:Array Bool) (a:Act) (w:World),
   (∀ j oj,ops[j]? = some oj->j≠i->listed.getD j true=false->(∀ e∈oj.after,Region.binds md e=true->e.on≠i)->oi.apart ops oj=true) ->
   i∈Region.ready md ops listed->U4 P ops S w0 oi v a->Fr S w0 w ->
   Z0 P md ops Q S w0 LA g f (listed.setIfInBounds i true) (a.put oi.dst v) w->Z0 P md ops Q S w0 LA g (f+1) listed a w
 | f,listed,a,w,hfree,hr,hy,hw,H=>fun w2 h2=>by
  refine ⟨fun h=>Np,fun j hj=>?_⟩;by_cases hji:j=i
  ·exact Co
  ·have hj':=ready_mono (i:=i) hj hji;obtain ⟨hjun,oj,hoj,hall⟩:=mem_ready.1 hj
   have hnot:∀ e∈oj.after,Region.binds md e=true->e.on≠i:=fun e he hb heq=>Ap
   cases f with
   | zero =>
    have hLA:=(H w2 h2).1;exact Bo
   | succ f =>
    have h1:=(H w2 h2).2 j hj';have g2:=hy.other hoj (hfree j oj hoj hji hjun hnot) (fun cs b=>Region.noSelect_spec hsel i oi cs b hi) (fun cs b=>Region.noSelect_spec hsel j oj cs b hoj) hQ h1
    have hfree':∀ k ok,ops[k]? = some ok->k≠i->(listed.setIfInBounds j true).getD k true=false ->
      (∀ e∈ok.after,Region.binds md e=true->e.on≠i)->oi.apart ops ok=true:=fun k ok hk hki hun hno=>by
     refine hfree k ok hk hki ?_ hno
     by_cases hjk:j=k
     ·subst hjk;exact hjun
     ·rw [getD_set_ne true hjk] at hun;exact hun
    refine wpOp_mono (fun a' w' h3=>⟨h3.2.1,Z0.first hi hsel hLB hQ f (listed.setIfInBounds j true) a' w' hfree' (ready_mono hr (Ne.symm hji)) h3.1 h3.2.1 ?_⟩) g2;exact Dw
def Y9 (md:Region.Mode) (ops:Array Oper) (LA:Array Bool):Nat->List Bool->Bool
 | k,true :: m=>W9 md ops LA k && Y9 md ops LA (k+1) m
 | k,false :: m=>Y9 md ops LA (k+1) m
 | _,[]=>true
theorem Qb (hs:Region.noSelect ops=true) (hQ:∀ c a d v w,Q (.panic c) (a.put d v) w->Q (.panic c) a w) {aE:Act} {n f:Nat} :
  ∀ (m:List Bool) (L:List Oper) (k:Nat) (listed:Array Bool) (a:Act) (w:World),(∀ j,L[j]? = ops[k+j]?)->Qj md ops k m listed=true->Y9 md ops LA k m=true->Tu n (sel m L)=true->a.tmps.size=n->Fr S w0 w ->
   (∀ wf,Fr S w0 wf->wpQuiet P ops (fun w'=>∃ s:In wf,w'=s.at_) (fun a'=>a'=aE) (sel m L) a)->Z0 P md ops Q S w0 LA g f (Vd k m listed) aE w->Z0 P md ops Q S w0 LA g (f+countB m) listed a w
 | [],L,k,listed,a,w,_,_,_,_,_,_,h,H=>by
  exact De
 | false :: m,[],k,listed,a,w,hL,hB,hW,hd,hn,hw,h,H=>Qb hs hQ m [] (k+1) listed a w (fun j=>by have:=hL (j+1);simpa [Nat.add_assoc,Nat.add_comm 1 j] using this) hB hW Ma hn hw (fun wf hf=>by have:=h wf hf;cases m with | nil=>exact this | cons b m=>cases b <;> exact this) H
 | false :: m,o :: L,k,listed,a,w,hL,hB,hW,hd,hn,hw,h,H=>Qb hs hQ m L (k+1) listed a w (fun j=>by have:=hL (j+1);simpa [Nat.add_assoc,Nat.add_comm 1 j] using this) hB hW hd hn hw h H
 | true :: m,[],k,listed,a,w,hL,hB,_,_,_,_,_,_=>by
  exfalso
  simp only [Qj,Bool.and_eq_true] at hB
  have hr:k∈Region.ready md ops listed:=by simpa using hB.1.1
  obtain ⟨_,o,ho,_⟩:=mem_ready.1 hr
  have:=hL 0
  simp [ho] at this
 | true :: m,o :: L,k,listed,a,w,hL,hB,hW,hd,hn,hw,h,H=>by
  simp only [Y9,Bool.and_eq_true] at hW
  obtain ⟨hW1,hW2⟩:=hW
  have h0:ops[k]? = some o:=by simpa using (hL 0).symm
  simp only [Qj,Bool.and_eq_true] at hB
  obtain ⟨⟨hr,hf⟩,hB'⟩:=hB
  simp only [sel,Tu,Bool.and_eq_true] at hd
  obtain ⟨hd1,hd2⟩:=hd
  have key:∃ v,U4 P ops S w0 o v a/\∀ wf,Fr S w0 wf->wpQuiet P ops (fun w'=>∃ s:In wf,w'=s.at_) (fun a'=>a'=aE) (sel m L) (a.put o.dst v):=by
   by_cases hw1:Region.wanted o (yielded ops a.tmps)=true
   ·have h':∀ wf,Fr S w0 wf->o.quiet P a (fun w'=>∃ s:In wf,w'=s.at_) (wpQuiet P ops (fun w'=>∃ s:In wf,w'=s.at_) (fun a'=>a'=aE) (sel m L)):=fun wf hf=>by
     have:=h wf hf
     simp only [sel,wpQuiet] at this
     rwa [qf hw1] at this
    obtain ⟨v,_,hv2⟩:=h' w0 (Fr.refl _ _)
    have same:∀ wf,Fr S w0 wf->∀ u,wpQuiet P ops (fun w'=>∃ s:In wf,w'=s.at_) (fun a'=>a'=aE) (sel m L) (a.put o.dst u)->o.dst=none\/u=v:=fun wf hf u hu=>by
     cases hod:o.dst with
     | none=>exact .inl rfl
     | some d =>
      rw [hod] at hd1 hu hv2
      simp only [Bool.and_eq_true,decide_eq_true_eq] at hd1
      have e1:=vq (sel m L) _ hd1.2 hu
      have e2:=vq (sel m L) _ hd1.2 hv2
      have hlt:d<a.tmps.size:=by rw [hn];exact hd1.1
      rw [e1] at e2
      simp [Act.put,hlt] at e2
      exact .inr e2
    refine ⟨v,.inl ⟨hw1,fun wf hf=>?_⟩,fun wf hf=>?_⟩
    ·obtain ⟨u,hu1,hu2⟩:=h' wf hf
     refine ⟨u,?_,same wf hf u hu2⟩
     have hq:=hu1 wf ⟨⟨wf,Fr.refl _ _⟩,rfl⟩
     unfold Oper.quietAt at hq ⊢
     generalize (execOp a.eval o).run P wf=r at *
     cases r with
     | ok x w' =>
      cases x <;> simp only [Oper.quietUpon] at hq ⊢
      case value=>exact hq
      case skip=>exact hq
      case enter g args=>exact ⟨hq.1,hq.2.mono fun e w'' ⟨he,s,hs⟩=>⟨he,hs ▸ s.fr⟩⟩
     | halt x w'=>exact hq
    ·obtain ⟨u,_,hu2⟩:=h' wf hf
     rw [<- Zr (same wf hf u hu2)];exact hu2
   ·refine ⟨undef,.inr ⟨by simpa using hw1,rfl⟩,fun wf hf=>?_⟩
    have:=h wf hf
    simp only [sel,wpQuiet] at this
    rwa [qd hw1] at this
  obtain ⟨v,hy,hK⟩:=key
  exact Z0.first h0 hs hW1 hQ (f+countB m) listed a w (Region.free_spec h0 hf) O0 hy hw
   (Qb hs hQ m L (k+1) _ _ w (fun j=>by have:=hL (j+1);simpa [Nat.add_assoc,Nat.add_comm 1 j] using this) hB' hW2 hd2 Nl hw hK H)
end
section
variable {P:Program} {l:List Oper} {Q:Exit->Act->World->Prop} {w0:World} {S:List Nat} {LA:Array Bool} {g:Nat}
theorem q79 (m:List Bool) (f:Nat) {g' n:Nat} {listed listed':Array Bool} {a:Act} {w:World} (hf:f+countB m=g') (hs:Region.noSelect l.toArray=true) (hB:Qj .any l.toArray 0 m listed=true) (hW:Y9 .any l.toArray LA 0 m=true)
  (hd:Tu n (sel m l)=true) (hn:a.tmps.size=n) (hl:Vd 0 m listed=listed') (hQ:∀ c a d v w,Q (.panic c) (a.put d v) w->Q (.panic c) a w) (hw:Fr S w0 w)
  (h:∃ aE,(∀ wf,Fr S w0 wf->wpQuiet P l.toArray (fun w'=>∃ s:In wf,w'=s.at_) (fun a'=>a'=aE) (sel m l) a)/\Z0 P .any l.toArray Q S w0 LA g f listed' aE w):Z0 P .any l.toArray Q S w0 LA g g' listed a w:=by
 subst hf;subst hl;obtain ⟨aE,h,H⟩:=h;exact Qb hs hQ m l 0 listed a w Lc hB hW hd hn hw h H
theorem lpq (m:List Bool) (f:Nat) {g' n:Nat} {listed listed':Array Bool} {a:Act} {w:World} (hw:Fr S w0 w) (h:∃ aE,(∀ wf,Fr S w0 wf->wpQuiet P l.toArray (fun w'=>∃ s:In wf,w'=s.at_) (fun a'=>a'=aE) (sel m l) a)/\Z0 P .any l.toArray Q S w0 LA g f listed' aE w) (hn:a.tmps.size=n:=by exact rfl) (hl:Vd 0 m listed=listed':=by exact rfl) (hf:f+countB m=g':=by exact rfl) (hs:Region.noSelect l.toArray=true:=by kernel_rfl) (hB:Qj .any l.toArray 0 m listed=true:=by kernel_rfl) (hW:Y9 .any l.toArray LA 0 m=true:=by kernel_rfl) (hd:Tu n (sel m l)=true:=by kernel_rfl) (hQ:∀ c a d v w,Q (.panic c) (a.put d v) w->Q (.panic c) a w:=by intro _ _ d _ _ h;cases d <;> exact h):Z0 P .any l.toArray Q S w0 LA g g' listed a w:=q79 m f hf hs hB hW hd hn hl hQ hw h
theorem jo (rs:List Nat) {f:Nat} {listed:Array Bool} {a:Act} {w:World} (hr:Region.ready .any l.toArray listed=rs) (hne:rs≠[])
  (h:∀ w2,Fr [] w w2->∀ i∈rs,∀ o,l[i]? = some o->wpList P l.toArray (Nx Q (fun a' w'=>Fr S w0 w'/\Z0 P .any l.toArray Q S w0 LA g f (listed.setIfInBounds i true) a' w')) [o] a w2):Z0 P .any l.toArray Q S w0 LA g (f+1) listed a w:=by
 intro w2 h2;refine ⟨fun h0=>hne (hr.symm.trans h0),fun i hi=>?_⟩;exact Dh
theorem q7w (i:Nat) {o:Oper} {f:Nat} {listed listed':Array Bool} {a:Act} {w:World} (hr:Region.ready .any l.toArray listed=[i]) (ho:l[i]? = some o) (hl:listed.setIfInBounds i true=listed')
  (h:∀ w2,Fr [] w w2->wpList P l.toArray (Nx Q (fun a' w'=>Fr S w0 w'/\Z0 P .any l.toArray Q S w0 LA g f listed' a' w')) [o] a w2):Z0 P .any l.toArray Q S w0 LA g (f+1) listed a w:=by
 exact Da
theorem loq (i:Nat) {o:Oper} {f:Nat} {listed listed':Array Bool} {a:Act} {w:World} (h:∀ w2,Fr [] w w2->wpList P l.toArray (Nx Q (fun a' w'=>Fr S w0 w'/\Z0 P .any l.toArray Q S w0 LA g f listed' a' w')) [o] a w2) (hl:listed.setIfInBounds i true=listed':=by exact rfl) (hr:Region.ready .any l.toArray listed=[i]:=by kernel_rfl) (ho:l[i]? = some o:=by exact rfl):Z0 P .any l.toArray Q S w0 LA g (f+1) listed a w:=q7w i hr ho hl h
theorem qy {k:Nat} {a:Act} {w:World} (hg:(l.drop k).length=g) (hB:Region.seqB .any l.toArray g k LA=true) (h:∀ w2,Fr [] w w2->wpList P l.toArray Q (l.drop k) a w2):Z0 P .any l.toArray Q S w0 LA g 0 LA a w:=Du
theorem wm (i:Nat) {d:Tmp} {x:Operand} {ty:TypeId} {ps:String} {af:Array Edge} {f:Nat} {listed listed':Array Bool} {a:Act} {w:World} (hi:l[i]? = some { dst:=some d,op:=Op.move x,type:=ty,pos:=ps,after:=af,guard:=none })
  (hs:Region.noSelect l.toArray=true) (hf:Region.free .any l.toArray listed i=true) (hr:(Region.ready .any l.toArray listed).contains i=true) (hl:listed.setIfInBounds i true=listed') (hQ:∀ c a d v w,Q (.panic c) (a.put d v) w->Q (.panic c) a w)
  (h:wpAny P .any l.toArray Q f listed' (a.put (some d) (a.eval x)) w):wpAny P .any l.toArray Q (f+1) listed a w:=by
 subst hl;exact wpAny_take (by simpa using hi) hs hf hr (fun c a w=>hQ c a (some d) _ w) (.inl ⟨rfl,fun w=>rfl⟩) h
theorem za {n:Nat} {listed:Array Bool} {a:Act} {w:World} (S:List Nat) (w0:World) (LA:Array Bool) (f g:Nat) (hl:f+g=n) (h:Z0 P .any l.toArray Q S w0 LA g f listed a w):wpAny P .any l.toArray Q n listed a w:=by subst hl;exact Z0.sound _ _ _ _ h
theorem qp {id:Nat} {a:Act} {w:World} (hm:P.follows .mixedOrders=true) (h:wpAny P .any l.toArray Q l.length (Array.replicate l.length false) a w.drew):(Code.region id l.toArray true).wp P Q a w :=
 wp_region_any hm P5
end
structure Acc where
 kind:Int
 at_:Int
 old:Int
 new:Int
 ok:Bool
structure St where
 l:List Int
 n:Int
 a:Acc
def inc (n:Int):Int:=wrap64 (n+1)
def J6 (l:List Int) (i:Int):Bool:=decide (0<=i) && decide (i<l.length)
def nth (l:List Int) (k:Nat):Int:=l.getD k 0
def qw (l:List Int) (i:Int):Int:=if J6 l i=true then nth l i.toNat else 0
def yl (l:List Int) (i v:Int):List Int:=if J6 l i=true then l.set i.toNat v else l
theorem q0l {l:List Int} {k:Nat} (h:k<l.length):J6 l k=true:=by simp [J6];omega
theorem Qp (l:List Int) (i:Int):(∃ k:Nat,i=k/\k<l.length/\J6 l i=true)\/((i<0\/l.length<=i)/\J6 l i=false):=by
 by_cases h:0<=i/\i<l.length
 ·obtain ⟨k,rfl⟩:=Int.eq_ofNat_of_zero_le h.1;exact .inl ⟨k,rfl,by omega,q0l Lb⟩
 ·refine .inr ⟨by omega,?_⟩;simp only [J6,Bool.and_eq_false_iff,decide_eq_false_iff_not];omega
theorem q0e {l:List Int} {k:Nat} (h:k<l.length):qw l k=nth l k:=by rw [qw,qf (q0l h)];rfl
theorem q6x {l:List Int} {i:Int} (h:J6 l i=false):qw l i=0:=by rw [qw,qd Mq]
theorem Um {l:List Int} {k:Nat} (v:Int) (h:k<l.length):yl l k v=l.set k v:=by rw [yl,qf (q0l h)];rfl
theorem q5y {l:List Int} {i:Int} (v:Int) (h:J6 l i=false):yl l i v=l:=by rw [yl,qd Mq]
theorem x7 (l:List Int) (i v:Int):(yl l i v).length=l.length:=by unfold yl;split <;> simp
theorem Jh {l:List Int} {k:Nat} (v:Int) (h:k<l.length) (i:Nat):nth (yl l k v) i=if i=k then v else nth l i:=by
 rw [Um v h,nth,nth,List.getD_eq_getElem?_getD,List.getElem?_set];by_cases e:k=i
 ·subst e;simp [h]
 ·rw [qd e,qd (Ne.symm e),List.getD_eq_getElem?_getD]
theorem isAt_poke (l:List Int) (i v j:Int):J6 (yl l i v) j=J6 l j:=by simp [J6,x7]
def St.note (s:St) (kind i was:Int) (ok:Bool):St:=⟨s.l,inc s.n,⟨kind,i,was,qw s.l i,ok⟩⟩
def St.yl (s:St) (i v:Int):St:=⟨Ar.yl s.l i v,s.n,s.a⟩
def St.load (s:St) (i:Int):St:=s.note 1 i (qw s.l i) false
def St.store (s:St) (i v:Int):St:=(s.yl i v).note 2 i (qw s.l i) false
def St.can (s:St) (i old:Int):Bool:=J6 s.l i && (qw s.l i == old)
def St.swap (s:St) (i old v:Int):St:=if s.can i old=true then (s.yl i v).note 3 i (qw s.l i) true else s.note 3 i (qw s.l i) false
def St.add (s:St) (i v:Int):St:=(s.yl i (wrap64 (qw s.l i+v))).note 4 i (qw s.l i) false
def q6j (s:St) (q cap:Nat):Array Value :=
 #[.int .i64 s.l.length,.slice (some ⟨q,0,none⟩) ((s.l.length+63) / 64) cap,.int .i64 s.n,.int .i64 s.a.kind,.int .i64 s.a.at_,.int .i64 s.a.old,.int .i64 s.a.new,.bool s.a.ok]
structure Ar (w:World) (p q:Nat) (s:St):Prop where
 ne:p≠q
 lo:1<=s.l.length
 hi:s.l.length<=20000
 mem:∃ cap c,w.heap[p]? = some (.cells (q6j s q cap) 78 (0,0))/\(s.l.length+63) / 64<=cap/\cap<=maxLen /\
  w.heap[q]? = some (.cells c 75 (0,0))/\c.size=cap * 64/\(∀ u∈c.toList.take ((s.l.length+63) / 64 * 64),u.oneCell'=true)/\∀ i,i<s.l.length->c[i]? = some (.int .i64 (nth s.l i))
theorem one_set {c:Array Value} {i n:Nat} {v:Value} (h:∀ u∈c.toList.take n,u.oneCell'=true) (hv:v.oneCell'=true):∀ u∈(c.setIfInBounds i v).toList.take n,u.oneCell'=true:=by
 intro u hu;rw [Array.toList_setIfInBounds,List.take_set] at hu;rcases List.mem_or_eq_of_mem_set hu with h1 | rfl
 ·exact h u h1
 ·exact hv
theorem Ar.lt {w:World} {p q:Nat} {s:St} (h:Ar w p q s):p<w.heap.size/\q<w.heap.size:=by obtain ⟨ne,lo,hi,cap,c,hp,hc1,hc2,hq,hs,hone,hc⟩:=h;exact Gc
theorem Ar.kept {w w':World} {p q:Nat} {s:St} {S:List Nat} (h:Ar w p q s) (f:Fr S w w') (hp:p∉S:=by simp) (hq:q∉S:=by simp):Ar w' p q s:=by have hlt:=h.lt;obtain ⟨ne,lo,hi,cap,c,h1,h2,h3,h4,h5,h5',h6⟩:=h;exact ⟨ne,lo,hi,cap,c,(f.block p hlt.1 hp).trans h1,h2,h3,(f.block q hlt.2 hq).trans h4,h5,h5',h6⟩
theorem q19 {k:IntKind} {a b:Int} {w:World} (h:a=b):Ending.returned (.int k a) = .returned (.int k b)/\w=w:=⟨by rw [h],rfl⟩
theorem Jn (w:World) (p q:Nat) (s:St) (k:Nat) (h:Ar w p q s) (hk:k<s.l.length) :
  Calls Tryz.prog 36 #[.pointer (some ⟨p,0,none⟩),.int .i64 k] w fun e w'=>e = .returned (.bool true)/\w=w':=by
 obtain ⟨ne,lo,hi,cap,c,hp,hc1,hc2,hq,hs,hone,hc⟩:=h;have h0:w.cell? ⟨p,0,none⟩=some (.int .i64 s.l.length):=by rw [cell_of_row w p 0 _ _ _ hp];rfl
 clear hp hq hone hc;go_enter Tryz.func36,Tryz.ntmps36;exact Ct
theorem V8 (w:World) (p q:Nat) (s:St) (k:Int) (h:Ar w p q s) (hk:k<0\/s.l.length<=k) :
  Calls Tryz.prog 36 #[.pointer (some ⟨p,0,none⟩),.int .i64 k] w fun e w'=>e = .returned (.bool false)/\w=w':=by
 obtain ⟨ne,lo,hi,cap,c,hp,hc1,hc2,hq,hs,hone,hc⟩:=h;have h0:w.cell? ⟨p,0,none⟩=some (.int .i64 s.l.length):=by rw [cell_of_row w p 0 _ _ _ hp];rfl
 clear hp hq hone hc;by_cases hk0:k<0
 ·clear hk;go_enter Tryz.func36,Tryz.ntmps36;exact Ct
 ·have hf:decide (k<(s.l.length:Int))=false:=by simp;omega
  have hk1:0<=k:=by omega
  clear hk hk0;go_enter Tryz.func36,Tryz.ntmps36;go_wp2;go_ret;exact ⟨by simp,rfl⟩
theorem Vb (w:World) (p q:Nat) (s:St) (i:Int) (h:Ar w p q s) :
  Calls Tryz.prog 36 #[.pointer (some ⟨p,0,none⟩),.int .i64 i] w fun e w'=>e = .returned (.bool (J6 s.l i))/\w=w':=by
 exact Eh
theorem yx (w:World) (p q:Nat) (s:St) (i:Int) (h:Ar w p q s) :
  Calls Tryz.prog 14 #[.pointer (some ⟨p,0,none⟩),.int .i64 i] w fun e w'=>e = .returned (.int .i64 (qw s.l i))/\w=w':=by
 have h':=h;obtain ⟨ne,lo,hi,cap,c,hp,hc1,hc2,hq,hs,hone,hc⟩:=h;have h0:w.cell? ⟨p,1,none⟩=some (.slice (some ⟨q,0,none⟩) ((s.l.length+63) / 64) cap):=by rw [cell_of_row w p 1 _ _ _ hp];rfl
 rcases Qp s.l i with ⟨k,rfl,hk,e⟩ | ⟨hk,e⟩
 ·have h1:w.cell? ⟨q,k / 64 * 64+k % 64,none⟩=some (.int .i64 (nth s.l k)):=by rw [cell_of_row w q _ _ _ _ hq,show k / 64 * 64+k % 64=k by omega];exact hc k hk
  rw [q0e hk];clear hp hq hone hc e;go_enter Tryz.func14,Tryz.ntmps14;go_wp2_with (go_at_call 36;refine (Jn _ p q s k h' hk).mono ?_;rintro e w' ⟨rfl,rfl⟩);go_ret;exact ⟨rfl,rfl⟩
 ·rw [q6x e];clear hp hq hone hc e;go_enter Tryz.func14,Tryz.ntmps14;go_wp2_with (go_at_call 36;refine (V8 _ p q s i h' hk).mono ?_;rintro e w' ⟨rfl,rfl⟩);go_ret;exact ⟨rfl,rfl⟩
theorem Qc (w:World) (p q:Nat) (s:St) (i v:Int) (h:Ar w p q s) :
  Calls Tryz.prog 28 #[.pointer (some ⟨p,0,none⟩),.int .i64 i,.int .i64 v] w fun e w'=>e = .returned (.tuple #[])/\Ar w' p q (s.yl i v)/\Fr [q] w w':=by
 have h':=h;obtain ⟨ne,lo,hi,cap,c,hp,hc1,hc2,hq,hs,hone,hc⟩:=h;have h0:w.cell? ⟨p,1,none⟩=some (.slice (some ⟨q,0,none⟩) ((s.l.length+63) / 64) cap):=by rw [cell_of_row w p 1 _ _ _ hp];rfl
 rcases Qp s.l i with ⟨k,rfl,hk,e⟩ | ⟨hk,e⟩
 ·have h1:w.cell? ⟨q,k / 64 * 64+k % 64,none⟩=some (.int .i64 (nth s.l k)):=by rw [cell_of_row w q _ _ _ _ hq,show k / 64 * 64+k % 64=k by omega];exact hc k hk
  have h2:w.frozen? ⟨q,k / 64 * 64+k % 64,none⟩=false:=frozen_of_row _ _ _ _ _ hq
  have A1:Ar (w.setCell ⟨q,k / 64 * 64+k % 64,none⟩ (.int .i64 v)) p q (s.yl k v):=by
   refine ⟨ne,by simp [St.yl,x7];exact lo,by simp [St.yl,x7];exact hi,cap,_,?_,by simpa [St.yl,x7] using hc1,hc2,heap_setCell_same _ _ _ _ _ _ hq,by simpa using hs,by simp only [St.yl,x7];exact one_set hone rfl,?_⟩
   ·rw [heap_setCell_other _ _ _ _ ne];simpa [q6j,St.yl,x7] using hp
   ·intro j hj;rw [show k / 64 * 64+k % 64=k by omega];exact C0
  have F1:Fr [q] w (w.setCell ⟨q,k / 64 * 64+k % 64,none⟩ (.int .i64 v)):=Fr.setCell _ Lc;clear hp hq hone hc e;go_enter Tryz.func28,Tryz.ntmps28;go_wp2_with (go_at_call 36;refine (Jn _ p q s k h' hk).mono ?_;rintro e w' ⟨rfl,rfl⟩);go_end0;exact ⟨rfl,A1,F1⟩
 ·have A1:Ar w p q (s.yl i v):=by rw [show s.yl i v=s by simp [St.yl,q5y v e]];exact h'
  clear hp hq hone hc e;go_enter Tryz.func28,Tryz.ntmps28;go_wp2_with (go_at_call 36;refine (V8 _ p q s i h' hk).mono ?_;rintro e w' ⟨rfl,rfl⟩);go_end0;exact ⟨rfl,A1,Fr.refl _ _⟩
theorem Q0 (w:World) (p q:Nat) (s:St) (kind i was:Int) (ok:Bool) (h:Ar w p q s) :
  Calls Tryz.prog 82 #[.pointer (some ⟨p,0,none⟩),.int .i64 kind,.int .i64 i,.int .i64 was,.bool ok] w fun e w'=>e = .returned (.tuple #[])/\Ar w' p q (s.note kind i was ok)/\Fr [p] w w':=by
 have h':=h;obtain ⟨ne,lo,hi,cap,c,hp,hc1,hc2,hq,hs,hone,hc⟩:=h;have h2:w.cell? ⟨p,2,none⟩=some (.int .i64 s.n):=by rw [cell_of_row w p 2 _ _ _ hp];rfl
 have h3:w.cell? ⟨p,3,none⟩=some (.int .i64 s.a.kind):=by rw [cell_of_row w p 3 _ _ _ hp];rfl
 have h4:w.cell? ⟨p,4,none⟩=some (.int .i64 s.a.at_):=by rw [cell_of_row w p 4 _ _ _ hp];rfl
 have h5:w.cell? ⟨p,5,none⟩=some (.int .i64 s.a.old):=by rw [cell_of_row w p 5 _ _ _ hp];rfl
 have h6:w.cell? ⟨p,6,none⟩=some (.int .i64 s.a.new):=by rw [cell_of_row w p 6 _ _ _ hp];rfl
 have h7:w.cell? ⟨p,7,none⟩=some (.bool s.a.ok):=by rw [cell_of_row w p 7 _ _ _ hp];rfl
 have hf:∀ j,w.frozen? ⟨p,j,none⟩=false:=fun j=>frozen_of_row _ _ _ _ _ hp
 have hf2:=hf 2;have hf3:=hf 3;have hf4:=hf 4;have hf5:=hf 5;have hf6:=hf 6;have hf7:=hf 7
 have A1:Ar (w.setCell ⟨p,2,none⟩ (.int .i64 (wrap64 (s.n+1)))) p q ⟨s.l,inc s.n,s.a⟩:=by refine ⟨ne,lo,hi,cap,c,heap_setCell_same _ _ _ _ _ _ hp,hc1,hc2,?_,hs,hone,hc⟩;exact Hq
 have A2:Ar ((((((w.setCell ⟨p,2,none⟩ (.int .i64 (wrap64 (s.n+1)))).setCell ⟨p,3,none⟩ (.int .i64 kind)).setCell ⟨p,4,none⟩ (.int .i64 i)).setCell ⟨p,5,none⟩ (.int .i64 was)).setCell ⟨p,6,none⟩ (.int .i64 (qw s.l i))).setCell ⟨p,7,none⟩ (.bool ok)) p q (s.note kind i was ok):=by refine ⟨ne,lo,hi,cap,c,heap_setCell_same _ _ _ _ _ _ (heap_setCell_same _ _ _ _ _ _ (heap_setCell_same _ _ _ _ _ _ (heap_setCell_same _ _ _ _ _ _ (heap_setCell_same _ _ _ _ _ _ (heap_setCell_same _ _ _ _ _ _ hp))))),hc1,hc2,?_,hs,hone,hc⟩;exact He
 have F2:Fr [p] w ((((((w.setCell ⟨p,2,none⟩ (.int .i64 (wrap64 (s.n+1)))).setCell ⟨p,3,none⟩ (.int .i64 kind)).setCell ⟨p,4,none⟩ (.int .i64 i)).setCell ⟨p,5,none⟩ (.int .i64 was)).setCell ⟨p,6,none⟩ (.int .i64 (qw s.l i))).setCell ⟨p,7,none⟩ (.bool ok)) :=
  (((((Fr.setCell _ Lc).setCell' _ Lc).setCell' _ Lc).setCell' _ Lc).setCell' _ Lc).setCell' _ Lc
 clear hf hp hq hone hc;go_enter Tryz.func82,Tryz.ntmps82;go_wp2_with fail;go_wp2_with (go_at_call 14;refine (yx _ p q _ i A1).mono ?_;rintro e w' ⟨rfl,rfl⟩);go_end0;exact ⟨rfl,A2,F2⟩
theorem zl (w:World) (p q:Nat) (s:St) (i:Int) (h:Ar w p q s) :
  Calls Tryz.prog 54 #[.pointer (some ⟨p,0,none⟩),.int .i64 i] w fun e w'=>e = .returned (.int .i64 (qw s.l i))/\Ar w' p q (s.load i)/\Fr [p,q] w w':=by
 go_enter Tryz.func54,Tryz.ntmps54;go_wp2_with (go_at_call 14;refine (yx _ p q _ i h).mono ?_;rintro e w' ⟨rfl,rfl⟩);exact Ef
theorem yn (w:World) (p q:Nat) (s:St) (i old v:Int) (h:Ar w p q s) :
  Calls Tryz.prog 53 #[.pointer (some ⟨p,0,none⟩),.int .i64 i,.int .i64 old,.int .i64 v] w fun e w'=>e = .returned (.bool (s.can i old))/\Ar w' p q (s.swap i old v)/\Fr [p,q] w w':=by
 cases hi:J6 s.l i
 ·have hc:s.can i old=false:=by simp [St.can,hi]
  exact Ay
 ·cases ho:(qw s.l i == old)
  ·have hc:s.can i old=false:=by simp [St.can,hi,ho]
   exact Ay
  ·have hc:s.can i old=true:=by simp [St.can,hi,ho]
   rw [hc,show s.swap i old v=(s.yl i v).note 3 i (qw s.l i) true by rw [St.swap,qf hc]];go_enter Tryz.func53,Tryz.ntmps53;go_wp2_with (first | (go_at_call 14;refine (yx _ p q _ i h).mono ?_;rintro e w' ⟨rfl,rfl⟩) | (go_at_call 36;refine (Vb _ p q _ i h).mono ?_;rintro e w' ⟨rfl,rfl⟩));exact Bz
theorem Ar.alloc {w:World} {p q:Nat} {s:St} (h:Ar w p q s) (o:Obj):Ar (w.alloc o) p q s:=h.kept ((Fr.refl [] w).alloc o) Lc Lc
theorem Ar.drew {w:World} {p q:Nat} {s:St} (h:Ar w p q s):Ar w.drew p q s:=h.kept ((Fr.refl [] w).drew) Lc Lc
def Acc.val (a:Acc):Value:=.agg #[.int .i64 a.kind,.int .i64 a.at_,.int .i64 a.old,.int .i64 a.new,.bool a.ok]
def St.fresh (n:Nat):St:=⟨List.replicate n 0,0,⟨0,0,0,0,false⟩⟩
def Made (w:World) (s:St) (e:Ending) (w':World):Prop:=∃ p q,e = .returned (.pointer (some ⟨p,0,none⟩))/\w.heap.size<=p/\w.heap.size<=q/\Ar w' p q s/\Fr [] w w'
def Wh:Value:=.agg (Array.replicate 64 (.int .i64 0))
theorem q8l:(Tryz.prog.info? 75).map (fun i=>(i.zero,i.size,i.bytes))=some (some Wh,64,512):=by kernel_rfl
theorem Ju (n:Nat):∀ j,j<n->(madeCells Wh.cells n).toList[j]? = some (.int .i64 0):=by intro j hj;have h:j % 64<64:=Nat.mod_lt _ Lg;simp [madeCells,Wh,Value.cells,hj];rw [getElem!_pos _ _ P5];simp
theorem q92 (n:Nat):∀ u∈(madeCells Wh.cells n).toList,u.oneCell'=true:=by intro u hu;obtain ⟨j,hj,rfl⟩:=List.getElem_of_mem hu;have h:=Ju n j (by simpa [madeCells] using hj);rw [List.getElem?_eq_getElem hj] at h;rw [qi h];rfl
theorem q0f {w w1:World} (n:Nat) (lo:1<=n) (hi:n<=20000) (hown:w1.ownsRow 0 75 64 (.slice (some ⟨w.heap.size,0,none⟩) ((n+63) / 64) ((n+63) / 64)) ((n+63) / 64) (madeCells Wh.cells ((n+63) / 64 * 64)).toList) (hg:w.grownBy w1 none) (hne:w.heap.size<w1.heap.size) :
  Made w (St.fresh n) (.returned (.pointer (some ⟨w1.heap.size,0,none⟩))) (w1.alloc (.cells #[.int .i64 n,.slice (some ⟨w.heap.size,0,none⟩) ((n+63) / 64) ((n+63) / 64),.int .i64 0,.int .i64 0,.int .i64 0,.int .i64 0,.int .i64 0,.bool false] 78)):=by
 refine ⟨w1.heap.size,w.heap.size,rfl,by omega,Nat.le_refl _,?_,(Fr.grown hg).alloc _⟩;obtain ⟨h1,h2⟩:=hown;rcases h2 with ⟨h2,_⟩ | ⟨g,cap,cur,hv,-,hh,hc1,hc2,hsz,htk⟩
 ·cases h2
 ·simp only [Value.slice.injEq,Option.some.injEq,Addr.mk.injEq] at hv;obtain ⟨⟨rfl,-,-⟩,-,rfl⟩:=hv;refine ⟨by omega,by simpa [St.fresh] using lo,by simpa [St.fresh] using hi,(n+63) / 64,cur,?_,by simp [St.fresh],hc2,?_,hsz,?_,?_⟩
  ·rw [Go.heap_alloc_new];simp [q6j,St.fresh]
  ·rw [heap_alloc_old _ _ hne];exact hh
  ·have e0:cur.toList=(madeCells Wh.cells ((n+63) / 64 * 64)).toList:=by rw [<- htk,List.take_of_length_le (by simp [hsz])]
   intro u hu;exact q92 _ u (e0 ▸ List.mem_of_mem_take hu)
  ·intro i hi';simp only [St.fresh,List.length_replicate] at hi'
   have e1:cur.toList[i]? = (madeCells Wh.cells ((n+63) / 64 * 64)).toList[i]?:=by rw [<- htk,List.getElem?_take_of_lt Lb]
   rw [Ju _ _ Lb] at e1;exact Eg
def V5 (n:Int):Nat:=(max 1 (min n 20000)).toNat
theorem q23 {w1:World} {b:Nat} {E:TypeId} {sz g n cap k:Nat} {xs:List Value} (h:w1.ownsRow b E sz (.slice (some ⟨g,0,none⟩) n cap) k xs):g<w1.heap.size:=by
 rcases h.2 with ⟨h,_⟩ | ⟨g,_,_,hv,_,hh,_⟩
 ·cases h
 ·cases hv;exact (Array.getElem?_eq_some_iff.1 hh).1
theorem U3 (n:Nat) (i:Int) (lo:1<=n) (hi:n<=20000) (hn:(i<1/\n=1)\/(1<=i/\i<=20000/\i=n)\/(20000<i/\n=20000)) (w:World) :
  Calls Tryz.prog 27 #[.int .i64 i] w (Made w (St.fresh n)):=by
 obtain ⟨i0,h0,hz0,hz1,hz2⟩:=info_parts q8l;rcases hn with ⟨h1,rfl⟩ | ⟨h1,h2,rfl⟩ | ⟨h1,rfl⟩
 ·go_enter Tryz.func27,Tryz.ntmps27;go_wp2_with (at_make;refine wpList_make_full _ rfl _ _ 76 rfl 0 75 i0 Wh 64 Tryz.underlying76 h0 hz0 hz1 _ _ _ _ 1 rfl rfl rfl rfl (by rw [hz2];decide) Lg (Nat.zero_le _) ?_;intro w1 hown hg;have hM:=q0f 1 lo hi hown hg (q23 hown);clear hown);go_ret;exact hM
 ·have e1:((n:Int)+64 - 1) / 64=(((n+63) / 64:Nat):Int):=by omega
  go_enter Tryz.func27,Tryz.ntmps27;go_wp2_with (at_make;refine wpList_make_full _ rfl _ _ 76 rfl 0 75 i0 Wh 64 Tryz.underlying76 h0 hz0 hz1 _ _ _ _ ((n+63) / 64) rfl rfl e1 e1 (by rw [hz2];omega) Ni (Nat.zero_le _) ?_;intro w1 hown hg;have hM:=q0f n lo hi hown hg (q23 hown);clear hown);go_ret;exact hM
 ·go_enter Tryz.func27,Tryz.ntmps27;go_wp2_with (at_make;refine wpList_make_full _ rfl _ _ 76 rfl 0 75 i0 Wh 64 Tryz.underlying76 h0 hz0 hz1 _ _ _ _ 313 rfl rfl rfl rfl (by rw [hz2];decide) Lg (Nat.zero_le _) ?_;intro w1 hown hg;have hM:=q0f 20000 lo hi hown hg (q23 hown);clear hown);go_ret;exact hM
theorem Xm (i:Int):1<=V5 i/\V5 i<=20000:=by unfold V5;omega
theorem qbl (i:Int) (w:World):Calls Tryz.prog 27 #[.int .i64 i] w (Made w (St.fresh (V5 i))) :=
 U3 _ i (Xm i).1 (Xm i).2 (by unfold V5;omega) w
end Go.Proofs.YtleclbldlladmaaGreat.Ar
namespace Go.Proofs.YtleclbldlladmaaGreat.Ref
open Go.RowKit Ar
def q1d (s:St) (q cap:Nat):Array Value :=
 #[.slice (some ⟨q,0,none⟩) s.l.length cap,.int .i64 s.n,.int .i64 s.a.kind,.int .i64 s.a.at_,.int .i64 s.a.old,.int .i64 s.a.new,.bool s.a.ok]
structure Rar (w:World) (p q:Nat) (s:St):Prop where
 ne:p≠q
 lo:1<=s.l.length
 hi:s.l.length<=20000
 mem:∃ cap c,w.heap[p]? = some (.cells (q1d s q cap) 66 (0,0))/\s.l.length<=cap/\cap<=maxLen /\
  w.heap[q]? = some (.cells c 3 (0,0))/\c.size=cap/\∀ i,i<s.l.length->c[i]? = some (.int .i64 (nth s.l i))
theorem Rar.lt {w:World} {p q:Nat} {s:St} (h:Rar w p q s):p<w.heap.size/\q<w.heap.size:=by obtain ⟨ne,lo,hi,cap,c,hp,hc1,hc2,hq,hs,hc⟩:=h;exact Gc
theorem Xj {w:World} {p q:Nat} {s:St} (h:Rar w p q s):∃ cap,s.l.length<=cap/\w.cell? ⟨p,0,none⟩=some (.slice (some ⟨q,0,none⟩) s.l.length cap)/\w.cell? ⟨p,1,none⟩=some (.int .i64 s.n)/\w.cell? ⟨p,2,none⟩=some (.int .i64 s.a.kind) /\
  w.cell? ⟨p,3,none⟩=some (.int .i64 s.a.at_)/\w.cell? ⟨p,4,none⟩=some (.int .i64 s.a.old)/\w.cell? ⟨p,5,none⟩=some (.int .i64 s.a.new)/\w.cell? ⟨p,6,none⟩=some (.bool s.a.ok)/\∀ i,i<s.l.length->w.cell? ⟨q,i,none⟩=some (.int .i64 (nth s.l i)):=by
 obtain ⟨ne,lo,hi,cap,c,hp,hc1,hc2,hq,hs,hc⟩:=h
 exact ⟨cap,hc1,by rw [cell_of_row w p 0 _ _ _ hp];rfl,by rw [cell_of_row w p 1 _ _ _ hp];rfl,by rw [cell_of_row w p 2 _ _ _ hp];rfl,by rw [cell_of_row w p 3 _ _ _ hp];rfl,by rw [cell_of_row w p 4 _ _ _ hp];rfl,by rw [cell_of_row w p 5 _ _ _ hp];rfl,by rw [cell_of_row w p 6 _ _ _ hp];rfl,
  fun i hi=>by rw [cell_of_row w q i _ _ _ hq];exact hc i hi⟩
theorem Rar.kept {w w':World} {p q:Nat} {s:St} {S:List Nat} (h:Rar w p q s) (f:Fr S w w') (hp:p∉S:=by simp) (hq:q∉S:=by simp):Rar w' p q s:=by have hlt:=h.lt;obtain ⟨ne,lo,hi,cap,c,h1,h2,h3,h4,h5,h6⟩:=h;exact ⟨ne,lo,hi,cap,c,(f.block p hlt.1 hp).trans h1,h2,h3,(f.block q hlt.2 hq).trans h4,h5,h6⟩
theorem Jn (w:World) (p q:Nat) (s:St) (k:Nat) (h:Rar w p q s) (hk:k<s.l.length) :
  Calls Tryz.prog 40 #[.pointer (some ⟨p,0,none⟩),.int .i64 k] w fun e w'=>e = .returned (.bool true)/\w=w':=by
 obtain ⟨ne,lo,hi,cap,c,hp,hc1,hc2,hq,hs,hc⟩:=h;have h0:w.cell? ⟨p,0,none⟩=some (.slice (some ⟨q,0,none⟩) s.l.length cap):=by rw [cell_of_row w p 0 _ _ _ hp];rfl
 clear hp hq hc;go_enter Tryz.func40,Tryz.ntmps40;exact Ct
theorem V8 (w:World) (p q:Nat) (s:St) (k:Int) (h:Rar w p q s) (hk:k<0\/s.l.length<=k) :
  Calls Tryz.prog 40 #[.pointer (some ⟨p,0,none⟩),.int .i64 k] w fun e w'=>e = .returned (.bool false)/\w=w':=by
 obtain ⟨ne,lo,hi,cap,c,hp,hc1,hc2,hq,hs,hc⟩:=h;have h0:w.cell? ⟨p,0,none⟩=some (.slice (some ⟨q,0,none⟩) s.l.length cap):=by rw [cell_of_row w p 0 _ _ _ hp];rfl
 clear hp hq hc;by_cases hk0:k<0
 ·clear hk;go_enter Tryz.func40,Tryz.ntmps40;exact Ct
 ·have hf:decide (k<(s.l.length:Int))=false:=by simp;omega
  have hk1:0<=k:=by omega
  clear hk hk0;go_enter Tryz.func40,Tryz.ntmps40;go_wp2;go_ret;exact ⟨by simp,rfl⟩
theorem Vb (w:World) (p q:Nat) (s:St) (i:Int) (h:Rar w p q s) :
  Calls Tryz.prog 40 #[.pointer (some ⟨p,0,none⟩),.int .i64 i] w fun e w'=>e = .returned (.bool (J6 s.l i))/\w=w':=by
 exact Eh
theorem yx (w:World) (p q:Nat) (s:St) (i:Int) (h:Rar w p q s) :
  Calls Tryz.prog 19 #[.pointer (some ⟨p,0,none⟩),.int .i64 i] w fun e w'=>e = .returned (.int .i64 (qw s.l i))/\w=w':=by
 have h':=h;obtain ⟨ne,lo,hi,cap,c,hp,hc1,hc2,hq,hs,hc⟩:=h;have h0:w.cell? ⟨p,0,none⟩=some (.slice (some ⟨q,0,none⟩) s.l.length cap):=by rw [cell_of_row w p 0 _ _ _ hp];rfl
 rcases Qp s.l i with ⟨k,rfl,hk,e⟩ | ⟨hk,e⟩
 ·have h1:w.cell? ⟨q,k,none⟩=some (.int .i64 (nth s.l k)):=by rw [cell_of_row w q _ _ _ _ hq];exact hc k hk
  rw [q0e hk];clear hp hq hc e;go_enter Tryz.func19,Tryz.ntmps19;go_wp2_with (go_at_call 40;refine (Jn _ p q s k h' hk).mono ?_;rintro e w' ⟨rfl,rfl⟩);go_ret;exact ⟨rfl,rfl⟩
 ·rw [q6x e];clear hp hq hc e;go_enter Tryz.func19,Tryz.ntmps19;go_wp2_with (go_at_call 40;refine (V8 _ p q s i h' hk).mono ?_;rintro e w' ⟨rfl,rfl⟩);go_ret;exact ⟨rfl,rfl⟩
theorem Qc (w:World) (p q:Nat) (s:St) (i v:Int) (h:Rar w p q s) :
  Calls Tryz.prog 65 #[.pointer (some ⟨p,0,none⟩),.int .i64 i,.int .i64 v] w fun e w'=>e = .returned (.tuple #[])/\Rar w' p q (s.yl i v)/\Fr [q] w w':=by
 have h':=h;obtain ⟨ne,lo,hi,cap,c,hp,hc1,hc2,hq,hs,hc⟩:=h;have h0:w.cell? ⟨p,0,none⟩=some (.slice (some ⟨q,0,none⟩) s.l.length cap):=by rw [cell_of_row w p 0 _ _ _ hp];rfl
 rcases Qp s.l i with ⟨k,rfl,hk,e⟩ | ⟨hk,e⟩
 ·have h1:w.cell? ⟨q,k,none⟩=some (.int .i64 (nth s.l k)):=by rw [cell_of_row w q _ _ _ _ hq];exact hc k hk
  have h2:w.frozen? ⟨q,k,none⟩=false:=frozen_of_row _ _ _ _ _ hq
  have A1:Rar (w.setCell ⟨q,k,none⟩ (.int .i64 v)) p q (s.yl k v):=by
   refine ⟨ne,by simp [St.yl,x7];exact lo,by simp [St.yl,x7];exact hi,cap,_,?_,by simpa [St.yl,x7] using hc1,hc2,heap_setCell_same _ _ _ _ _ _ hq,by simpa using hs,?_⟩
   ·rw [heap_setCell_other _ _ _ _ ne];simpa [q1d,St.yl,x7] using hp
   ·intro j hj;exact C0
  have F1:Fr [q] w (w.setCell ⟨q,k,none⟩ (.int .i64 v)):=Fr.setCell _ Lc;clear hp hq hc e;go_enter Tryz.func65,Tryz.ntmps65;go_wp2_with (go_at_call 40;refine (Jn _ p q s k h' hk).mono ?_;rintro e w' ⟨rfl,rfl⟩);go_end0;exact ⟨rfl,A1,F1⟩
 ·have A1:Rar w p q (s.yl i v):=by rw [show s.yl i v=s by simp [St.yl,q5y v e]];exact h'
  clear hp hq hc e;go_enter Tryz.func65,Tryz.ntmps65;go_wp2_with (go_at_call 40;refine (V8 _ p q s i h' hk).mono ?_;rintro e w' ⟨rfl,rfl⟩);go_end0;exact ⟨rfl,A1,Fr.refl _ _⟩
theorem Q0 (w:World) (p q:Nat) (s:St) (kind i was:Int) (ok:Bool) (h:Rar w p q s) :
  Calls Tryz.prog 123 #[.pointer (some ⟨p,0,none⟩),.int .i64 kind,.int .i64 i,.int .i64 was,.bool ok] w fun e w'=>e = .returned (.tuple #[])/\Rar w' p q (s.note kind i was ok)/\Fr [p] w w':=by
 have h':=h;obtain ⟨ne,lo,hi,cap,c,hp,hc1,hc2,hq,hs,hc⟩:=h;have h2:w.cell? ⟨p,1,none⟩=some (.int .i64 s.n):=by rw [cell_of_row w p 1 _ _ _ hp];rfl
 have h3:w.cell? ⟨p,2,none⟩=some (.int .i64 s.a.kind):=by rw [cell_of_row w p 2 _ _ _ hp];rfl
 have h4:w.cell? ⟨p,3,none⟩=some (.int .i64 s.a.at_):=by rw [cell_of_row w p 3 _ _ _ hp];rfl
 have h5:w.cell? ⟨p,4,none⟩=some (.int .i64 s.a.old):=by rw [cell_of_row w p 4 _ _ _ hp];rfl
 have h6:w.cell? ⟨p,5,none⟩=some (.int .i64 s.a.new):=by rw [cell_of_row w p 5 _ _ _ hp];rfl
 have h7:w.cell? ⟨p,6,none⟩=some (.bool s.a.ok):=by rw [cell_of_row w p 6 _ _ _ hp];rfl
 have hf:∀ j,w.frozen? ⟨p,j,none⟩=false:=fun j=>frozen_of_row _ _ _ _ _ hp
 have hf2:=hf 1;have hf3:=hf 2;have hf4:=hf 3;have hf5:=hf 4;have hf6:=hf 5;have hf7:=hf 6
 have A1:Rar (w.setCell ⟨p,1,none⟩ (.int .i64 (wrap64 (s.n+1)))) p q ⟨s.l,inc s.n,s.a⟩:=by refine ⟨ne,lo,hi,cap,c,heap_setCell_same _ _ _ _ _ _ hp,hc1,hc2,?_,hs,hc⟩;exact Hq
 have A2:Rar ((((((w.setCell ⟨p,1,none⟩ (.int .i64 (wrap64 (s.n+1)))).setCell ⟨p,2,none⟩ (.int .i64 kind)).setCell ⟨p,3,none⟩ (.int .i64 i)).setCell ⟨p,4,none⟩ (.int .i64 was)).setCell ⟨p,5,none⟩ (.int .i64 (qw s.l i))).setCell ⟨p,6,none⟩ (.bool ok)) p q (s.note kind i was ok):=by refine ⟨ne,lo,hi,cap,c,heap_setCell_same _ _ _ _ _ _ (heap_setCell_same _ _ _ _ _ _ (heap_setCell_same _ _ _ _ _ _ (heap_setCell_same _ _ _ _ _ _ (heap_setCell_same _ _ _ _ _ _ (heap_setCell_same _ _ _ _ _ _ hp))))),hc1,hc2,?_,hs,hc⟩;exact He
 have F2:Fr [p] w ((((((w.setCell ⟨p,1,none⟩ (.int .i64 (wrap64 (s.n+1)))).setCell ⟨p,2,none⟩ (.int .i64 kind)).setCell ⟨p,3,none⟩ (.int .i64 i)).setCell ⟨p,4,none⟩ (.int .i64 was)).setCell ⟨p,5,none⟩ (.int .i64 (qw s.l i))).setCell ⟨p,6,none⟩ (.bool ok)) :=
  (((((Fr.setCell _ Lc).setCell' _ Lc).setCell' _ Lc).setCell' _ Lc).setCell' _ Lc).setCell' _ Lc
 clear hf hp hq hc;go_enter Tryz.func123,Tryz.ntmps123;go_wp2_with fail;go_wp2_with (go_at_call 19;refine (yx _ p q _ i A1).mono ?_;rintro e w' ⟨rfl,rfl⟩);go_end0;exact ⟨rfl,A2,F2⟩
theorem zl (w:World) (p q:Nat) (s:St) (i:Int) (h:Rar w p q s) :
  Calls Tryz.prog 98 #[.pointer (some ⟨p,0,none⟩),.int .i64 i] w fun e w'=>e = .returned (.int .i64 (qw s.l i))/\Rar w' p q (s.load i)/\Fr [p,q] w w':=by
 go_enter Tryz.func98,Tryz.ntmps98;go_wp2_with (go_at_call 19;refine (yx _ p q _ i h).mono ?_;rintro e w' ⟨rfl,rfl⟩);exact Ef
theorem jr (w:World) (p q:Nat) (s:St) (i v:Int) (h:Rar w p q s) :
  Calls Tryz.prog 99 #[.pointer (some ⟨p,0,none⟩),.int .i64 i,.int .i64 v] w fun e w'=>e = .returned (.tuple #[])/\Rar w' p q (s.store i v)/\Fr [p,q] w w':=by
 go_enter Tryz.func99,Tryz.ntmps99;go_wp2_with (go_at_call 19;refine (yx _ p q _ i h).mono ?_;rintro e w' ⟨rfl,rfl⟩);refine (Qc _ p q s i v h).mono ?_;rintro e w1 ⟨rfl,A1,F1⟩;go_wp2_with fail;refine (Q0 _ p q _ 2 i (qw s.l i) false A1).mono ?_;rintro e w2 ⟨rfl,A2,F2⟩;go_wp2;go_end0;exact Fw
theorem Uy (w:World) (p q:Nat) (s:St) (i v:Int) (h:Rar w p q s) :
  Calls Tryz.prog 112 #[.pointer (some ⟨p,0,none⟩),.int .i64 i,.int .i64 v] w fun e w'=>e = .returned (.int .i64 (qw s.l i))/\Rar w' p q (s.add i v)/\Fr [p,q] w w':=by
 go_enter Tryz.func112,Tryz.ntmps112;go_wp2_with (go_at_call 19;refine (yx _ p q _ i h).mono ?_;rintro e w' ⟨rfl,rfl⟩);refine (Qc _ p q s i (wrap64 (qw s.l i+v)) h).mono ?_;rintro e w1 ⟨rfl,A1,F1⟩;go_wp2_with fail;refine (Q0 _ p q _ 4 i (qw s.l i) false A1).mono ?_;rintro e w2 ⟨rfl,A2,F2⟩;go_wp2;go_ret;exact Fw
theorem yn (w:World) (p q:Nat) (s:St) (i old v:Int) (h:Rar w p q s) :
  Calls Tryz.prog 113 #[.pointer (some ⟨p,0,none⟩),.int .i64 i,.int .i64 old,.int .i64 v] w fun e w'=>e = .returned (.bool (s.can i old))/\Rar w' p q (s.swap i old v)/\Fr [p,q] w w':=by
 cases hi:J6 s.l i
 ·have hc:s.can i old=false:=by simp [St.can,hi]
  exact Aw
 ·cases ho:(qw s.l i == old)
  ·have hc:s.can i old=false:=by simp [St.can,hi,ho]
   exact Aw
  ·have hc:s.can i old=true:=by simp [St.can,hi,ho]
   rw [hc,show s.swap i old v=(s.yl i v).note 3 i (qw s.l i) true by rw [St.swap,qf hc]];go_enter Tryz.func113,Tryz.ntmps113;go_wp2_with (first | (go_at_call 19;refine (yx _ p q _ i h).mono ?_;rintro e w' ⟨rfl,rfl⟩) | (go_at_call 40;refine (Vb _ p q _ i h).mono ?_;rintro e w' ⟨rfl,rfl⟩));exact Bz
def q6d (w:World) (s:St) (e:Ending) (w':World):Prop:=∃ p q,e = .returned (.pointer (some ⟨p,0,none⟩))/\w.heap.size<=p/\w.heap.size<=q/\Rar w' p q s/\Fr [] w w'
theorem Ul:(Tryz.prog.info? 3).map (fun i=>(i.zero,i.size,i.bytes))=some (some (.int .i64 0),1,8):=by kernel_rfl
theorem q8h {w w1:World} (n:Nat) (lo:1<=n) (hi:n<=20000) (hown:w1.ownsRow 0 3 1 (.slice (some ⟨w.heap.size,0,none⟩) n n) n (madeCells (Value.int .i64 0).cells (n * 1)).toList) (hg:w.grownBy w1 none) (hne:w.heap.size<w1.heap.size) :
  q6d w (St.fresh n) (.returned (.pointer (some ⟨w1.heap.size,0,none⟩))) (w1.alloc (.cells #[.slice (some ⟨w.heap.size,0,none⟩) n n,.int .i64 0,.int .i64 0,.int .i64 0,.int .i64 0,.int .i64 0,.bool false] 66)):=by
 refine ⟨w1.heap.size,w.heap.size,rfl,by omega,Nat.le_refl _,?_,(Fr.grown hg).alloc _⟩;obtain ⟨h1,h2⟩:=hown;rcases h2 with ⟨h2,_⟩ | ⟨g,cap,cur,hv,-,hh,hc1,hc2,hsz,htk⟩
 ·cases h2
 ·simp only [Value.slice.injEq,Option.some.injEq,Addr.mk.injEq] at hv;obtain ⟨⟨rfl,-,-⟩,-,rfl⟩:=hv;refine ⟨by omega,by simpa [St.fresh] using lo,by simpa [St.fresh] using hi,n,cur,?_,by simp [St.fresh],hc2,?_,by simpa using hsz,?_⟩
  ·rw [Go.heap_alloc_new];simp [q1d,St.fresh]
  ·rw [heap_alloc_old _ _ hne];exact hh
  ·intro i hi';simp only [St.fresh,List.length_replicate] at hi'
   have e1:cur.toList[i]? = (madeCells (Value.int .i64 0).cells (n * 1)).toList[i]?:=by rw [<- htk,List.getElem?_take_of_lt Lb]
   rw [show (Value.int .i64 0).cells = #[.int .i64 0] from rfl,toList_madeCells_one,List.getElem?_replicate,qf Lb] at e1;exact Eg
theorem Zw (n:Nat) (i:Int) (hn:(i<1/\n=1)\/(1<=i/\i<=20000/\i=n)\/(20000<i/\n=20000)) (w:World) :
  Calls Tryz.prog 47 #[.int .i64 i,.int .i64 1,.int .i64 20000] w fun e w'=>e = .returned (.int .i64 n)/\w=w':=by
 rcases hn with ⟨h1,rfl⟩ | ⟨h1,h2,rfl⟩ | ⟨h1,rfl⟩
 all_goals
  go_enter Tryz.func47,Tryz.ntmps47
  go_wp2
  all_goals go_ret
  all_goals (first | exact ⟨rfl,rfl⟩ | exact q19 Lb)
theorem U3 (n:Nat) (i:Int) (lo:1<=n) (hi:n<=20000) (hn:(i<1/\n=1)\/(1<=i/\i<=20000/\i=n)\/(20000<i/\n=20000)) (w:World) :
  Calls Tryz.prog 25 #[.int .i64 i] w (q6d w (St.fresh n)):=by
 obtain ⟨i0,h0,hz0,hz1,hz2⟩:=info_parts Ul;have HH:=Zw n i hn w;clear hn;go_enter Tryz.func25,Tryz.ntmps25;go_wp2_with (first | (go_at_call 47;refine HH.mono ?_;rintro e w' ⟨rfl,rfl⟩) | (at_make;refine wpList_make_full _ rfl _ _ 25 rfl 0 3 i0 (.int .i64 0) 1 Tryz.underlying25 h0 hz0 hz1 _ _ _ _ n rfl rfl rfl rfl (by rw [hz2];omega) Ni (Nat.zero_le _) ?_;intro w1 hown hg;have hM:=q8h n lo hi hown hg (q23 hown);clear hown));go_ret;exact hM
theorem qbl (i:Int) (w:World):Calls Tryz.prog 25 #[.int .i64 i] w (q6d w (St.fresh (V5 i))) :=
 U3 _ i (Xm i).1 (Xm i).2 (by unfold V5;omega) w
end Go.Proofs.YtleclbldlladmaaGreat.Ref
namespace Go.Proofs.YtleclbldlladmaaGreat.Mx
open Go.RowKit Ar Ref
def hd (n a b:Int):Int:=max a (min n b)
theorem q3y (n:Int) {a b:Int} (h:a<=b):a<=hd n a b/\hd n a b<=b:=by unfold hd;omega
theorem hd_in {n a b:Int} (h1:a<=n) (h2:n<=b):hd n a b=n:=by unfold hd;omega
theorem w64 {a:Int} (h0:-9223372036854775808<=a) (h1:a<=9223372036854775807):wrap64 a=a:=IntWalk.wrap64_in a ⟨h0,h1⟩
theorem q9w (a b:Int) (i:Nat) (hi:i<=24) (h0:0<=a) (h1:a<=1073741824) (h2:0<=b) (h3:b<2 ^ i):wrap64 (bits .or .u64 (a * 2 ^ i) b)=a * 2 ^ i+b:=Aq
def un (a:Int):Int:=a % 18446744073709551616
theorem un_in {a:Int} (h0:0<=a) (h1:a<=9223372036854775807):un a=a:=by unfold un;omega
theorem Jt (a:Int):IntKind.u64.wrap a=un a:=IntKind.wrap_u64 a
theorem q8n (a:Int):0<=un a/\un a<18446744073709551616:=by unfold un;omega
theorem Kj (a:Int) (i m:Nat) (hm:m+1=2 ^ i) (hi:i<=24):wrap64 (bits .and .u64 (IntKind.u64.wrap a) (m:Int))=a % ((m+1:Nat):Int):=Am
theorem bv_u (a:Int):BitVec.ofInt 64 (IntKind.u64.wrap a)=BitVec.ofInt 64 a:=by
 rw [Jt];unfold un;apply BitVec.eq_of_toNat_eq;rw [BitVec.toNat_ofInt,BitVec.toNat_ofInt]
 have:a % 18446744073709551616 % ((2 ^ 64:Nat):Int)=a % ((2 ^ 64:Nat):Int):=by rw [show ((2 ^ 64:Nat):Int)=18446744073709551616 by decide];omega
 rw [this]
theorem Wv (n:Int):IntKind.i64.wrap n=wrap64 n:=by unfold wrap64;rw [IntKind.wrap_i64]
theorem qbs (a b:Int):bits .and .i64 a b=wrap64 (bits .and .u64 (IntKind.u64.wrap a) b):=by show IntKind.i64.wrap ((BitVec.ofInt 64 a &&& BitVec.ofInt 64 b).toNat:Int)=wrap64 (IntKind.u64.wrap ((BitVec.ofInt 64 (IntKind.u64.wrap a) &&& BitVec.ofInt 64 b).toNat:Int));rw [bv_u];have h:=(BitVec.ofInt 64 a &&& BitVec.ofInt 64 b).isLt;generalize (BitVec.ofInt 64 a &&& BitVec.ofInt 64 b).toNat=n at *;exact Gi
theorem qdb (a b:Int):bits .or .i64 a b=wrap64 (bits .or .u64 a b):=by show IntKind.i64.wrap ((BitVec.ofInt 64 a ||| BitVec.ofInt 64 b).toNat:Int)=wrap64 (IntKind.u64.wrap ((BitVec.ofInt 64 a ||| BitVec.ofInt 64 b).toNat:Int));have h:=(BitVec.ofInt 64 a ||| BitVec.ofInt 64 b).isLt;generalize (BitVec.ofInt 64 a ||| BitVec.ofInt 64 b).toNat=n at *;exact Gi
theorem q0q (a:Int) (i m:Nat) (hm:m+1=2 ^ i) (hi:i<=24):bits .and .i64 a (m:Int)=a % ((m+1:Nat):Int):=by rw [qbs,Kj a i m hm hi]
theorem Tk (a b:Int) (i:Nat) (hi:i<=24) (h0:0<=a) (h1:a<=1073741824) (h2:0<=b) (h3:b<2 ^ i):bits .or .i64 (a * 2 ^ i) b=a * 2 ^ i+b:=by rw [qdb,q9w a b i hi h0 h1 h2 h3]
theorem Yo {a b:Int} {w:World} (h:a=b):Ending.returned (.int .i64 a) = .returned (.int .i64 b)/\w=w:=⟨by rw [h],rfl⟩
theorem ret_b {a b:Bool} {w:World} (h:a=b):Ending.returned (.bool a) = .returned (.bool b)/\w=w:=⟨by rw [h],rfl⟩
theorem Zw (n a b:Int) (w:World):Calls Tryz.prog 47 #[.int .i64 n,.int .i64 a,.int .i64 b] w fun e w'=>e = .returned (.int .i64 (hd n a b))/\w=w':=by
 generalize hm:hd n a b=m;have hm':=q9 hm;clear hm;go_enter Tryz.func47,Tryz.ntmps47;go_wp2;all_goals go_ret
 all_goals exact Yo (by rw [<- hm'.out];unfold hd;(repeat' split at *) <;> omega)
def jh (a:Int) (m:Bool):Int:=hd a 0 1073741824 * 2+(if m then 1 else 0)
def atW (a:Int):Int:=a / 2
def Jw (a:Int):Bool:=decide (a % 2=1)
def vu (v:Int):Int:=hd v 0 16777212+3
def Vi (s:Int):Int:=if s<3 then -1 else wrap64 (s - 3)
def ko (s p:Int):Int:=hd s 0 1073741824 * 16777216+hd p 0 16777212
def q4w (a:Int):Int:=a / 16777216
def kg (a:Int):Int:=a % 16777216
def Ja (d v:Int):Int:=hd d 0 1048576 * 2097152+(hd v (-1) 1048576+1)
def q9x (a:Int):Int:=a / 2097152
def q3b (a:Int):Int:=a % 2097152 - 1
theorem Y7 (a:Int) (m:Bool) (w:World):Calls Tryz.prog 66 #[.int .i64 a,.bool m] w fun e w'=>e = .returned (.int .i64 (jh a m))/\w=w':=by
 have hb:=q3y a (show (0:Int)<=1073741824 by decide);have hw:wrap64 (hd a 0 1073741824 * 2)=hd a 0 1073741824 * 2:=w64 Lb Lb;have hj:=Tk (hd a 0 1073741824) 1 1 Lg hb.1 hb.2 Lg Lg;simp only [Int.pow_one,Int.reducePow] at hj;cases m
 ·go_enter Tryz.func66,Tryz.ntmps66;go_wp2_with (go_at_call 47;refine (Zw _ _ _ _).mono ?_;rintro e _ ⟨rfl,rfl⟩);go_ret;exact Yo (by unfold jh;simp [hw])
 ·go_enter Tryz.func66,Tryz.ntmps66;go_wp2_with (go_at_call 47;refine (Zw _ _ _ _).mono ?_;rintro e _ ⟨rfl,rfl⟩);go_ret;exact Yo (by unfold jh;simp [hw,hj])
theorem Xt (a:Int) (w:World):Calls Tryz.prog 13 #[.int .i64 a] w fun e w'=>e = .returned (.int .i64 (atW a))/\w=w':=by go_enter Tryz.func13,Tryz.ntmps13;go_wp2;go_ret;exact Yo rfl
theorem Yh (a:Int) (w:World):Calls Tryz.prog 16 #[.int .i64 a] w fun e w'=>e = .returned (.bool (Jw a))/\w=w':=by go_enter Tryz.func16,Tryz.ntmps16;go_wp2;go_ret;exact ret_b (by unfold Jw;rw [show bits .and .i64 a 1=a % 2 from q0q a 1 1 Lg Lg,Bool.eq_iff_iff];simp)
theorem Xb (v:Int) (w:World):Calls Tryz.prog 114 #[.int .i64 v] w fun e w'=>e = .returned (.int .i64 (vu v))/\w=w':=by go_enter Tryz.func114,Tryz.ntmps114;go_wp2_with (go_at_call 47;refine (Zw _ _ _ _).mono ?_;rintro e _ ⟨rfl,rfl⟩);go_ret;exact Yo (by unfold vu;have hb:=q3y v (show (0:Int)<=16777212 by decide);first | rfl | (rw [w64 Lb Lb]))
theorem Xz (s:Int) (w:World):Calls Tryz.prog 81 #[.int .i64 s] w fun e w'=>e = .returned (.int .i64 (Vi s))/\w=w':=by
 by_cases c:s<3
 all_goals
  go_enter Tryz.func81,Tryz.ntmps81
  go_wp2
  go_ret
  exact Yo (by unfold Vi;first | rw [qf Lb] | rw [qd Lb])
theorem Vm (a b:Int) (w:World):Calls Tryz.prog 101 #[.int .i64 a,.int .i64 b] w fun e w'=>e = .returned (.int .i64 (ko a b))/\w=w':=by go_enter Tryz.func101,Tryz.ntmps101;go_wp2_with (go_at_call 47;refine (Zw _ _ _ _).mono ?_;rintro e _ ⟨rfl,rfl⟩);go_ret;have hb:=q3y a (show (0:Int)<=1073741824 by decide);have hc:=q3y b (show (0:Int)<=16777212 by decide);have hw:wrap64 (hd a 0 1073741824 * 16777216)=hd a 0 1073741824 * 16777216:=w64 Lb Lb;have hj:=Tk (hd a 0 1073741824) (hd b 0 16777212) 24 Lg hb.1 hb.2 hc.1 (by simp only [Int.reducePow];omega);simp only [Int.reducePow] at hj;exact Yo (by unfold ko;rw [<- hj];first | rfl | (simp only [hw]))
theorem q22 (a b:Int) (w:World):Calls Tryz.prog 70 #[.int .i64 a,.int .i64 b] w fun e w'=>e = .returned (.int .i64 (Ja a b))/\w=w':=by go_enter Tryz.func70,Tryz.ntmps70;go_wp2_with (go_at_call 47;refine (Zw _ _ _ _).mono ?_;rintro e _ ⟨rfl,rfl⟩);go_ret;have hb:=q3y a (show (0:Int)<=1048576 by decide);have hc:=q3y b (show (-1:Int)<=1048576 by decide);have hw:wrap64 (hd a 0 1048576 * 2097152)=hd a 0 1048576 * 2097152:=w64 Lb Lb;have hw2:wrap64 (hd b (-1) 1048576+1)=hd b (-1) 1048576+1:=w64 Lb Lb;have hj:=Tk (hd a 0 1048576) (hd b (-1) 1048576+1) 21 Lg hb.1 Lb Lb (by simp only [Int.reducePow];omega);simp only [Int.reducePow] at hj;exact Yo (by unfold Ja;rw [<- hj];first | rfl | (simp only [hw,hw2]))
theorem q09 (a:Int) (w:World):Calls Tryz.prog 142 #[.int .i64 a] w fun e w'=>e = .returned (.int .i64 (q4w a))/\w=w':=by go_enter Tryz.func142,Tryz.ntmps142;go_wp2;go_ret;exact Yo rfl
theorem Yd (a:Int) (w:World):Calls Tryz.prog 122 #[.int .i64 a] w fun e w'=>e = .returned (.int .i64 (kg a))/\w=w':=by go_enter Tryz.func122,Tryz.ntmps122;go_wp2;go_ret;exact Yo (by unfold kg;exact q0q a 24 16777215 Lg Lg)
theorem q77 (a:Int) (w:World):Calls Tryz.prog 80 #[.int .i64 a] w fun e w'=>e = .returned (.int .i64 (q9x a))/\w=w':=by go_enter Tryz.func80,Tryz.ntmps80;go_wp2;go_ret;exact Yo rfl
theorem q6b (a:Int) (w:World):Calls Tryz.prog 102 #[.int .i64 a] w fun e w'=>e = .returned (.int .i64 (q3b a))/\w=w':=by go_enter Tryz.func102,Tryz.ntmps102;go_wp2;go_ret;exact Yo (by unfold q3b;have e:=q0q a 21 2097151 Lg Lg;simp only [Int.reduceToNat,Nat.reduceAdd] at e;first | (rw [e];done) | (have h1:=Int.emod_nonneg a (show (2097152:Int)≠0 by decide);have h2:=Int.emod_lt_of_pos a (show (0:Int)<2097152 by decide);simp [e];omega) | (rw [show bits .and .i64 a 2097151=a % 2097152 from e];have h1:=Int.emod_nonneg a (show (2097152:Int)≠0 by decide);have h2:=Int.emod_lt_of_pos a (show (0:Int)<2097152 by decide);exact w64 Lb Lb))
def Ob (w:World) (b:Nat) (T:TypeId) (cs:Array Value):Prop:=w.heap[b]? = some (.cells cs T (0,0))
theorem Ob.lt {w:World} {b:Nat} {T:TypeId} {cs:Array Value} (h:Ob w b T cs):b<w.heap.size:=(Array.getElem?_eq_some_iff.1 h).1
theorem Ob.kept {S:List Nat} {w w':World} {b:Nat} {T:TypeId} {cs:Array Value} (h:Ob w b T cs) (f:Fr S w w') (hb:b∉S):Ob w' b T cs:=f.heap h hb
theorem Ob.up {w w':World} {b:Nat} {T:TypeId} {cs:Array Value} (h:Ob w b T cs) (f:Fr [] w w'):Ob w' b T cs:=f.heap h Lc
theorem Ob.set {w:World} {b i:Nat} {T:TypeId} {cs:Array Value} (h:Ob w b T cs) (v:Value):Ob (w.setCell ⟨b,i,none⟩ v) b T (cs.setIfInBounds i v):=heap_setCell_same _ b i _ _ v h
theorem Ob.other {w:World} {b b' i:Nat} {T:TypeId} {cs:Array Value} (h:Ob w b T cs) (hb:b≠b') (v:Value):Ob (w.setCell ⟨b',i,none⟩ v) b T cs:=by unfold Ob;rw [heap_setCell_other _ _ _ _ hb];exact h
theorem Ob.new (w:World) (T:TypeId) (cs:Array Value):Ob (w.alloc (.cells cs T (0,0))) w.heap.size T cs:=Go.heap_alloc_new w _
theorem Yr (w:World) (o:Obj):(w.alloc o).heap.size=w.heap.size+1:=by unfold World.alloc;simp
theorem Ob.newAt {w:World} {n:Nat} (hs:w.heap.size=n) (T:TypeId) (cs:Array Value):Ob (w.alloc (.cells cs T (0,0))) n T cs:=by subst hs;exact Ob.new w T cs
theorem Ob.alloc {w:World} {b:Nat} {T:TypeId} {cs:Array Value} (h:Ob w b T cs) (o:Obj):Ob (w.alloc o) b T cs:=h.up ((Fr.refl [] w).alloc o)
theorem Ob.cell {w:World} {b:Nat} {T:TypeId} {cs:Array Value} (h:Ob w b T cs) {i:Nat} {v:Value} (hv:cs[i]? = some v):w.cell? ⟨b,i,none⟩=some v:=by rw [cell_of_row _ _ _ _ _ _ h];exact hv
theorem Ob.frozen {w:World} {b:Nat} {T:TypeId} {cs:Array Value} (h:Ob w b T cs) (i:Nat):w.frozen? ⟨b,i,none⟩=false:=frozen_of_row _ _ _ _ _ h
theorem Ob.ne {w:World} {b b':Nat} {T T':TypeId} {cs cs':Array Value} (h:Ob w b T cs) (k:Ob w b' T' cs') (hT:T≠T'):b≠b':=by rintro rfl;unfold Ob at h k;rw [h] at k;simp only [Option.some.injEq,Obj.cells.injEq] at k;exact hT k.2.1
theorem _root_.Go.Proofs.YtleclbldlladmaaGreat.Ref.Rar.set {w:World} {p q b i:Nat} {s:St} (h:Rar w p q s) (hp:b≠p) (hq:b≠q) (v:Value):Rar (w.setCell ⟨b,i,none⟩ v) p q s :=
 h.kept (Fr.setCell (S:=[b]) v (List.mem_singleton.2 rfl)) (by simpa using hp.symm) (by simpa using hq.symm)
theorem Fr.set1 {S:List Nat} {w w':World} (h:Fr S w w') {b i:Nat} (v:Value) (hb:b∈S):Fr S w (w'.setCell ⟨b,i,none⟩ v):=h.setCell' v hb
theorem zm {S T:List Nat} {w w' w'':World} (h:Fr S w w') (k:Fr T w' w'') (hT:∀ i,i∈T->i∈S):Fr S w w'':=h.trans (k.mono hT)
structure Cf where
 t:Int
 c:Int
 wd:Int
 v:Int
def Cf.val (c:Cf):Value:=.agg #[.int .i64 c.t,.int .i64 c.c,.int .i64 c.wd,.int .i64 c.v]
structure Cf.Ok (c:Cf):Prop where
 t1:1<=c.t
 t8:c.t<=8
 c2:c.t+2<=c.c
 c16:c.c<=16
 w1:1<=c.wd
 w2:c.wd<=20000
 v1:1<=c.v
 v2:c.v<=1048576
 top:21+c.t+3 * c.c<=c.wd
def z6 (c:Cf):Int:=7+3 * c.c
def q9t (t:Int):Int:=3+t
def Vr (c:Cf) (k:Int):Int:=3+c.t+k / 16
def xn (c:Cf):Int:=7+c.t
def jq (c:Cf):Int:=14+c.t
def topP (c:Cf):Int:=21+c.t+3 * c.c
def Qo (a i:Int):Int:=wrap64 (a+7+3 * i)
theorem w64w (a b:Int):wrap64 (wrap64 a+wrap64 b)=wrap64 (a+b):=by unfold wrap64;omega
theorem w64l (a b:Int):wrap64 (wrap64 a+b)=wrap64 (a+b):=by unfold wrap64;omega
theorem w64r (a b:Int):wrap64 (a+wrap64 b)=wrap64 (a+b):=by unfold wrap64;omega
theorem w64i (a:Int):wrap64 (wrap64 a)=wrap64 a:=by unfold wrap64;omega
theorem vk (a i:Int) (w:World):Calls Tryz.prog 111 #[.int .i64 a,.int .i64 i] w fun e w'=>e = .returned (.int .i64 (Qo a i))/\w=w':=by go_enter Tryz.func111,Tryz.ntmps111;go_wp2;go_ret;exact Yo (by unfold Qo;first | rw [w64w] | (simp only [w64l,w64r,w64i,w64w]))
end Go.Proofs.YtleclbldlladmaaGreat.Mx
namespace Go.Proofs.YtleclbldlladmaaGreat.Pl
open Go.RowKit Ar
theorem conf_any (t c wd:Int) (w:World) :
  Calls Tryz.prog 20 #[.int .i64 t,.int .i64 c,.int .i64 wd] w fun e w'=>e = .returned (.agg #[.int .i64 t,.int .i64 c,.int .i64 wd,.int .i64 1000])/\Fr [] w w':=by
 go_enter Tryz.func20,Tryz.ntmps20;go_wp2;exact bodyPost_ret (v:=.agg #[.int .i64 t,.int .i64 c,.int .i64 wd,.int .i64 1000]) (by simp [results,Tryz.results20,go_sem]) rfl ⟨rfl,(Fr.refl _ _).alloc _⟩
theorem Zq (t c wd v:Int) (h1:1<=c) (h2:c<=16) (w:World) :
  Calls Tryz.prog 83 #[.agg #[.int .i64 t,.int .i64 c,.int .i64 wd,.int .i64 v]] w fun e w'=>e = .returned (.int .i64 (7+3 * c))/\Fr [] w w':=by
 go_enter Tryz.func83,Tryz.ntmps83;exact Av
theorem ku (t:Int) (h1:0<=t) (h2:t<=8) (w:World) :
  Calls Tryz.prog 84 #[.int .i64 t] w fun e w'=>e = .returned (.int .i64 (3+t))/\w=w':=by
 go_enter Tryz.func84,Tryz.ntmps84;exact Ct
theorem Ue (t c wd v:Int) (h1:1<=t) (h2:t<=8) (w:World) :
  Calls Tryz.prog 62 #[.agg #[.int .i64 t,.int .i64 c,.int .i64 wd,.int .i64 v]] w fun e w'=>e = .returned (.int .i64 (3+t))/\Fr [] w w':=by
 go_enter Tryz.func62,Tryz.ntmps62;go_wp2_with (go_at_call 84;refine (ku _ Lb h2 _).mono ?_;rintro e w' ⟨rfl,rfl⟩);go_ret;exact ⟨rfl,(Fr.refl _ _).alloc _⟩
theorem Qm (t c wd v:Int) (h1:1<=t) (h2:t<=8) (w:World) :
  Calls Tryz.prog 43 #[.agg #[.int .i64 t,.int .i64 c,.int .i64 wd,.int .i64 v]] w fun e w'=>e = .returned (.int .i64 (3+t+4))/\Fr [] w w':=by
 go_enter Tryz.func43,Tryz.ntmps43;go_wp2_with fail;refine (Ue t c wd v h1 h2 _).mono ?_;rintro e w1 ⟨rfl,F1⟩;exact Iu
theorem X7 (t c wd v:Int) (h1:1<=t) (h2:t<=8) (w:World) :
  Calls Tryz.prog 22 #[.agg #[.int .i64 t,.int .i64 c,.int .i64 wd,.int .i64 v]] w fun e w'=>e = .returned (.int .i64 (3+t+4+7))/\Fr [] w w':=by
 go_enter Tryz.func22,Tryz.ntmps22;exact Dc
theorem yu {w:World} {b:Nat} {t:TypeId} {x0 x1 x2 x3:Value} (h:w.heap[b]? = some (.cells #[x0,x1,x2,x3] t (0,0))) :
  w.cell? ⟨b,0,none⟩=some x0/\w.cell? ⟨b,1,none⟩=some x1/\w.cell? ⟨b,2,none⟩=some x2/\w.cell? ⟨b,3,none⟩=some x3 :=
 ⟨by rw [cell_of_row _ _ _ _ _ _ h];rfl,by rw [cell_of_row _ _ _ _ _ _ h];rfl,by rw [cell_of_row _ _ _ _ _ _ h];rfl,by rw [cell_of_row _ _ _ _ _ _ h];rfl⟩
theorem Ko (t c wd v:Int) (h1:1<=t) (h2:t<=8) (h3:1<=c) (h4:c<=16) (w:World) :
  Calls Tryz.prog 61 #[.agg #[.int .i64 t,.int .i64 c,.int .i64 wd,.int .i64 v]] w fun e w'=>e = .returned (.int .i64 (21+t+3 * c))/\Fr [] w w':=by
 go_enter Tryz.func61,Tryz.ntmps61;go_wp2_with fail;obtain ⟨c0,c1,c2,c3⟩:=yu (Go.heap_alloc_new w (.cells #[.int .i64 t,.int .i64 c,.int .i64 wd,.int .i64 v] 23));have k0:=qb c0;have k1:=qb c1;have k2:=qb c2;have k3:=qb c3;clear c0 c1 c2 c3;refine wiq ?_;repeat (go_big_quiet_step ((first | (go_at_call 22;exact Calls.in_ (X7 _ _ _ _ h1 h2 _)) | (go_at_call 83;exact Calls.in_ (Zq _ _ _ _ h3 h4 _)))))
 exact Em
theorem jw (n a b:Int) (h1:a<=n) (h2:n<=b) (w:World) :
  Calls Tryz.prog 60 #[.int .i64 n,.int .i64 a,.int .i64 b] w fun e w'=>e = .returned (.bool true)/\w=w':=by
 exact L8
theorem Zb (n a b:Int) (h:n<a\/b<n) (w:World) :
  Calls Tryz.prog 60 #[.int .i64 n,.int .i64 a,.int .i64 b] w fun e w'=>e = .returned (.bool false)/\w=w':=by
 by_cases h1:n<a
 ·clear h;exact L8
 ·have h2:b<n:=by omega
  have h3:a<=n:=by omega
  have hf:decide (n<=b)=false:=by simp;omega
  clear h h1 h2;exact L8
def qc9 (n:Int):Value:=if n=0 then .nilIface else .iface 99 (.int .i64 n)
def form (t c wd v:Int):Bool:=decide (1<=t) && decide (t<=8) && decide (t+2<=c) && decide (c<=16) && decide (1<=v) && decide (v<=1048576) && decide (1<=wd) && decide (wd<=20000)
def code (t c wd v:Int):Int:=if form t c wd v=true then (if 21+t+3 * c<=wd then 0 else 14) else 10
theorem Zv {t c wd v:Int}:form t c wd v=true↔(1<=t/\t<=8/\t+2<=c/\c<=16/\1<=v/\v<=1048576/\1<=wd/\wd<=20000):=by simp only [form,Bool.and_eq_true,decide_eq_true_eq,and_assoc]
theorem qb7 (t c wd v:Int) (h:t<1\/8<t\/c<t+2\/16<c\/v<1\/1048576<v\/wd<1\/20000<wd) (w:World) :
  Calls Tryz.prog 41 #[.agg #[.int .i64 t,.int .i64 c,.int .i64 wd,.int .i64 v]] w fun e w'=>e = .returned (.iface 99 (.int .i64 10))/\Fr [] w w':=by
 by_cases hh:t<1\/8<t
 ·clear h;have F:=Zb t 1 8 hh;have H:=q9 F;clear F hh;go_enter Tryz.func41,Tryz.ntmps41;exact Ij
 ·have T:=q9 (jw t 1 8 Lb Lb);have t1:1<=t:=by omega
  have t2:t<=8:=by omega
  by_cases hc:c<t+2\/16<c
  ·have H:=q9 (Zb c (t+2) 16 hc);clear h hh hc;go_enter Tryz.func41,Tryz.ntmps41;go_wp2_with fail;refine (T.out _).mono ?_;rintro e w1 ⟨rfl,rfl⟩;exact Ij
  ·have C:=q9 (jw c (t+2) 16 Lb Lb);by_cases hv:v<1\/1048576<v
   ·have H:=q9 (Zb v 1 1048576 hv);clear h hh hc hv;go_enter Tryz.func41,Tryz.ntmps41;go_wp2_with fail;refine (T.out _).mono ?_;rintro e w1 ⟨rfl,rfl⟩;go_wp2_with fail;refine (C.out _).mono ?_;rintro e w1 ⟨rfl,rfl⟩;exact Ij
   ·have V:=q9 (jw v 1 1048576 Lb Lb);have H:=q9 (Zb wd 1 20000 Lb);clear h hh hc hv;go_enter Tryz.func41,Tryz.ntmps41;go_wp2_with fail;refine (T.out _).mono ?_;rintro e w1 ⟨rfl,rfl⟩;go_wp2_with fail;refine (C.out _).mono ?_;rintro e w1 ⟨rfl,rfl⟩;go_wp2_with fail;refine (V.out _).mono ?_;rintro e w1 ⟨rfl,rfl⟩;exact Ij
theorem qax (t c wd v:Int) (h:form t c wd v=true) (w:World) :
  Calls Tryz.prog 41 #[.agg #[.int .i64 t,.int .i64 c,.int .i64 wd,.int .i64 v]] w fun e w'=>e = .returned (qc9 (if 21+t+3 * c<=wd then 0 else 14))/\Fr [] w w':=by
 obtain ⟨t1,t2,c1,c2,v1,v2,w1,w2⟩:=Zv.1 h;have T:=q9 (jw t 1 8 t1 t2);have C:=q9 (jw c (t+2) 16 c1 c2);have V:=q9 (jw v 1 1048576 v1 v2);have W:=q9 (jw wd 1 20000 w1 w2);have TP:=q9 (Ko t c wd v t1 t2 Lb c2);clear h c1;by_cases hf:21+t+3 * c<=wd
 all_goals
  first | rw [qf hf] | rw [qd hf]
  go_enter Tryz.func41,Tryz.ntmps41
  go_wp2_with fail
  refine (T.out _).mono ?_;rintro e w1 ⟨rfl,rfl⟩
  go_wp2_with fail
  refine (C.out _).mono ?_;rintro e w1 ⟨rfl,rfl⟩
  go_wp2_with fail
  refine (V.out _).mono ?_;rintro e w1 ⟨rfl,rfl⟩
  go_wp2_with fail
  refine (W.out _).mono ?_;rintro e w1 ⟨rfl,rfl⟩
  go_wp2_with fail
  obtain ⟨c0,c1,c2,c3⟩:=yu (Go.heap_alloc_new w (.cells #[.int .i64 t,.int .i64 c,.int .i64 wd,.int .i64 v] 23))
  have k0:=qb c0
  have k1:=qb c1
  have k2:=qb c2
  have k3:=qb c3
  clear c0 c1 c2 c3
  refine wiq ?_
  repeat (go_big_quiet_step ((go_at_call 61;exact Calls.in_ (TP.out _))))
  refine wpQuiet_nil ?_
  intro w1 F1
  have G:=((Fr.refl [] w).alloc _).trans F1
  clear F1
  go_wp2
  go_ret
  exact ⟨rfl,G⟩
theorem qct (t c wd v:Int) (w:World) :
  Calls Tryz.prog 41 #[.agg #[.int .i64 t,.int .i64 c,.int .i64 wd,.int .i64 v]] w fun e w'=>e = .returned (qc9 (code t c wd v))/\Fr [] w w':=by
 cases h:form t c wd v
 ·have hn:¬ form t c wd v=true:=by simp [h]
  rw [Zv] at hn;rw [code,qd Mq];exact qb7 t c wd v Lb w
 ·rw [code,qf h];exact qax t c wd v h w
end Go.Proofs.YtleclbldlladmaaGreat.Pl
namespace Go.Proofs.YtleclbldlladmaaGreat.Ar
open Go.RowKit
section
variable {P:Program} {ops:Array Oper} {Q:Exit->Act->World->Prop} {md:Region.Mode} {w0:World} {S:List Nat} {LA:Array Bool} {g:Nat}
def Vo (md:Region.Mode) (ops:Array Oper) (LA:Array Bool) (i:Nat):Bool:=(List.range LA.size).any fun k=>k != i && LA.getD k false && Region.waitsFor md ops k i
theorem Wi {i:Nat} (h:Vo md ops LA i=true):∃ k,k≠i/\LA.getD k false=true/\Region.waitsFor md ops k i=true:=by unfold Vo at h;obtain ⟨k,-,hk⟩:=List.any_eq_true.1 h;simp only [Bool.and_eq_true,bne_iff_ne,ne_eq] at hk;exact ⟨k,hk.1.1,hk.1.2,hk.2⟩
def Qs (md:Region.Mode) (ops:Array Oper) (listed:Array Bool) (i:Nat):Bool:=(List.range listed.size).all fun k=>!(listed.getD k false) || !Region.waitsFor md ops k i
theorem Xu {listed:Array Bool} {i k:Nat} (h:Qs md ops listed i=true) (hk:listed.getD k false=true):Region.waitsFor md ops k i=false:=by
 unfold Qs at h
 have hlt:k<listed.size:=Ew
 have:=List.all_eq_true.1 h k (List.mem_range.2 hlt);rw [hk] at this;simpa using this
theorem getD_set_ne' {listed:Array Bool} {j k:Nat} (d:Bool) (h:j≠k):(listed.setIfInBounds j true).getD k d=listed.getD k d:=by simp [Array.getD_eq_getD_getElem?,Array.getElem?_setIfInBounds,h]
theorem Uu {listed:Array Bool} {i j:Nat} (h:Qs md ops listed i=true) (hj:¬ Region.waitsFor md ops j i=true):Qs md ops (listed.setIfInBounds j true) i=true:=by
 unfold Qs;rw [List.all_eq_true];intro k hk;by_cases e:j=k
 ·subst e;cases hw:Region.waitsFor md ops j i with
  | true=>exact absurd hw hj
  | false=>simp
 ·rw [getD_set_ne' false e];cases hl:listed.getD k false with
  | false=>rfl
  | true=>rw [Xu h hl];rfl
theorem Z0.first2 {i:Nat} {oi:Oper} {v:Value} (hi:ops[i]? = some oi) (hsel:Region.noSelect ops=true) (hLB:(W9 md ops LA i || Vo md ops LA i)=true)
  (hQ:∀ c a d v w,Q (.panic c) (a.put d v) w->Q (.panic c) a w):∀ (f:Nat) (listed:Array Bool) (a:Act) (w:World),
   (∀ j oj,ops[j]? = some oj->j≠i->listed.getD j true=false->(∀ e∈oj.after,Region.binds md e=true->e.on≠i)->oi.apart ops oj=true) ->
   Qs md ops listed i=true->i∈Region.ready md ops listed->U4 P ops S w0 oi v a->Fr S w0 w ->
   Z0 P md ops Q S w0 LA g f (listed.setIfInBounds i true) (a.put oi.dst v) w->Z0 P md ops Q S w0 LA g (f+1) listed a w
 | f,listed,a,w,hfree,hnw,hr,hy,hw,H=>fun w2 h2=>by
  refine ⟨fun h=>Np,fun j hj=>?_⟩;by_cases hji:j=i
  ·exact Co
  ·have hj':=ready_mono (i:=i) hj hji;obtain ⟨hjun,oj,hoj,hall⟩:=mem_ready.1 hj
   have hnot:∀ e∈oj.after,Region.binds md e=true->e.on≠i:=fun e he hb heq=>Ap
   cases f with
   | zero =>
    have hLA:=(H w2 h2).1
    have hLB:W9 md ops LA i=true:=by
     rcases Bool.or_eq_true_iff.1 hLB with h | h
     ·exact h
     ·obtain ⟨k,hki,hk,hkw⟩:=Wi h;rw [<- hLA,getD_set_ne' false (Ne.symm hki)] at hk;rw [Xu hnw hk] at hkw;cases hkw
    exact Bo
   | succ f =>
    have h1:=(H w2 h2).2 j hj';have g2:=hy.other hoj (hfree j oj hoj hji hjun hnot) (fun cs b=>Region.noSelect_spec hsel i oi cs b hi) (fun cs b=>Region.noSelect_spec hsel j oj cs b hoj) hQ h1
    have hfree':∀ k ok,ops[k]? = some ok->k≠i->(listed.setIfInBounds j true).getD k true=false ->
      (∀ e∈ok.after,Region.binds md e=true->e.on≠i)->oi.apart ops ok=true:=fun k ok hk hki hun hno=>by
     refine hfree k ok hk hki ?_ hno
     by_cases hjk:j=k
     ·subst hjk;exact hjun
     ·rw [getD_set_ne true hjk] at hun;exact hun
    refine wpOp_mono (fun a' w' h3=>⟨h3.2.1,Z0.first2 hi hsel hLB hQ f (listed.setIfInBounds j true) a' w' hfree' (Uu hnw (fun h=>by obtain ⟨ok,hok,e,he,hb,hon⟩:=Region.waitsFor_spec h;rw [hoj] at hok;cases hok;exact hnot e he hb hon)) (ready_mono hr (Ne.symm hji)) h3.1 h3.2.1 ?_⟩) g2;exact Dw
def Kc (md:Region.Mode) (ops:Array Oper) (LA:Array Bool):Nat->List Bool->Array Bool->Bool
 | k,true :: m,listed=>(W9 md ops LA k || Vo md ops LA k) && Qs md ops listed k && Kc md ops LA (k+1) m (listed.setIfInBounds k true)
 | k,false :: m,listed=>Kc md ops LA (k+1) m listed
 | _,[],_=>true
theorem kr (hs:Region.noSelect ops=true) (hQ:∀ c a d v w,Q (.panic c) (a.put d v) w->Q (.panic c) a w) {aE:Act} {n f:Nat} :
  ∀ (m:List Bool) (L:List Oper) (k:Nat) (listed:Array Bool) (a:Act) (w:World),(∀ j,L[j]? = ops[k+j]?)->Qj md ops k m listed=true->Kc md ops LA k m listed=true->Tu n (sel m L)=true->a.tmps.size=n->Fr S w0 w ->
   (∀ wf,Fr S w0 wf->wpQuiet P ops (fun w'=>∃ s:In wf,w'=s.at_) (fun a'=>a'=aE) (sel m L) a)->Z0 P md ops Q S w0 LA g f (Vd k m listed) aE w->Z0 P md ops Q S w0 LA g (f+countB m) listed a w
 | [],L,k,listed,a,w,_,_,_,_,_,_,h,H=>by
  exact De
 | false :: m,[],k,listed,a,w,hL,hB,hW,hd,hn,hw,h,H=>kr hs hQ m [] (k+1) listed a w (fun j=>by have:=hL (j+1);simpa [Nat.add_assoc,Nat.add_comm 1 j] using this) hB hW Ma hn hw (fun wf hf=>by have:=h wf hf;cases m with | nil=>exact this | cons b m=>cases b <;> exact this) H
 | false :: m,o :: L,k,listed,a,w,hL,hB,hW,hd,hn,hw,h,H=>kr hs hQ m L (k+1) listed a w (fun j=>by have:=hL (j+1);simpa [Nat.add_assoc,Nat.add_comm 1 j] using this) hB hW hd hn hw h H
 | true :: m,[],k,listed,a,w,hL,hB,_,_,_,_,_,_=>by
  exfalso
  simp only [Qj,Bool.and_eq_true] at hB
  have hr:k∈Region.ready md ops listed:=by simpa using hB.1.1
  obtain ⟨_,o,ho,_⟩:=mem_ready.1 hr
  have:=hL 0
  simp [ho] at this
 | true :: m,o :: L,k,listed,a,w,hL,hB,hW,hd,hn,hw,h,H=>by
  simp only [Kc,Bool.and_eq_true] at hW
  obtain ⟨⟨hW1,hW3⟩,hW2⟩:=hW
  have h0:ops[k]? = some o:=by simpa using (hL 0).symm
  simp only [Qj,Bool.and_eq_true] at hB
  obtain ⟨⟨hr,hf⟩,hB'⟩:=hB
  simp only [sel,Tu,Bool.and_eq_true] at hd
  obtain ⟨hd1,hd2⟩:=hd
  have key:∃ v,U4 P ops S w0 o v a/\∀ wf,Fr S w0 wf->wpQuiet P ops (fun w'=>∃ s:In wf,w'=s.at_) (fun a'=>a'=aE) (sel m L) (a.put o.dst v):=by
   by_cases hw1:Region.wanted o (yielded ops a.tmps)=true
   ·have h':∀ wf,Fr S w0 wf->o.quiet P a (fun w'=>∃ s:In wf,w'=s.at_) (wpQuiet P ops (fun w'=>∃ s:In wf,w'=s.at_) (fun a'=>a'=aE) (sel m L)):=fun wf hf=>by
     have:=h wf hf
     simp only [sel,wpQuiet] at this
     rwa [qf hw1] at this
    obtain ⟨v,_,hv2⟩:=h' w0 (Fr.refl _ _)
    have same:∀ wf,Fr S w0 wf->∀ u,wpQuiet P ops (fun w'=>∃ s:In wf,w'=s.at_) (fun a'=>a'=aE) (sel m L) (a.put o.dst u)->o.dst=none\/u=v:=fun wf hf u hu=>by
     cases hod:o.dst with
     | none=>exact .inl rfl
     | some d =>
      rw [hod] at hd1 hu hv2
      simp only [Bool.and_eq_true,decide_eq_true_eq] at hd1
      have e1:=vq (sel m L) _ hd1.2 hu
      have e2:=vq (sel m L) _ hd1.2 hv2
      have hlt:d<a.tmps.size:=by rw [hn];exact hd1.1
      rw [e1] at e2
      simp [Act.put,hlt] at e2
      exact .inr e2
    refine ⟨v,.inl ⟨hw1,fun wf hf=>?_⟩,fun wf hf=>?_⟩
    ·obtain ⟨u,hu1,hu2⟩:=h' wf hf
     refine ⟨u,?_,same wf hf u hu2⟩
     have hq:=hu1 wf ⟨⟨wf,Fr.refl _ _⟩,rfl⟩
     unfold Oper.quietAt at hq ⊢
     generalize (execOp a.eval o).run P wf=r at *
     cases r with
     | ok x w' =>
      cases x <;> simp only [Oper.quietUpon] at hq ⊢
      case value=>exact hq
      case skip=>exact hq
      case enter g args=>exact ⟨hq.1,hq.2.mono fun e w'' ⟨he,s,hs⟩=>⟨he,hs ▸ s.fr⟩⟩
     | halt x w'=>exact hq
    ·obtain ⟨u,_,hu2⟩:=h' wf hf
     rw [<- Zr (same wf hf u hu2)];exact hu2
   ·refine ⟨undef,.inr ⟨by simpa using hw1,rfl⟩,fun wf hf=>?_⟩
    have:=h wf hf
    simp only [sel,wpQuiet] at this
    rwa [qd hw1] at this
  obtain ⟨v,hy,hK⟩:=key
  exact Z0.first2 h0 hs hW1 hQ (f+countB m) listed a w (Region.free_spec h0 hf) hW3 O0 hy hw
   (kr hs hQ m L (k+1) _ _ w (fun j=>by have:=hL (j+1);simpa [Nat.add_assoc,Nat.add_comm 1 j] using this) hB' hW2 hd2 Nl hw hK H)
end
section
variable {P:Program} {l:List Oper} {Q:Exit->Act->World->Prop} {w0:World} {S:List Nat} {LA:Array Bool} {g:Nat}
theorem ja (m:List Bool) (f:Nat) {g' n:Nat} {listed listed':Array Bool} {a:Act} {w:World} (hf:f+countB m=g') (hs:Region.noSelect l.toArray=true) (hB:Qj .any l.toArray 0 m listed=true) (hW:Kc .any l.toArray LA 0 m listed=true)
  (hd:Tu n (sel m l)=true) (hn:a.tmps.size=n) (hl:Vd 0 m listed=listed') (hQ:∀ c a d v w,Q (.panic c) (a.put d v) w->Q (.panic c) a w) (hw:Fr S w0 w)
  (h:∃ aE,(∀ wf,Fr S w0 wf->wpQuiet P l.toArray (fun w'=>∃ s:In wf,w'=s.at_) (fun a'=>a'=aE) (sel m l) a)/\Z0 P .any l.toArray Q S w0 LA g f listed' aE w):Z0 P .any l.toArray Q S w0 LA g g' listed a w:=by
 subst hf;subst hl;obtain ⟨aE,h,H⟩:=h;exact kr hs hQ m l 0 listed a w Lc hB hW hd hn hw h H
end
section
variable {P:Program} {ops:Array Oper} {Q:Exit->Act->World->Prop} {md:Region.Mode} {C:World->Prop} {LA:Array Bool} {g:Nat}
def Y3 (P:Program) (ops:Array Oper) (C:World->Prop) (o:Oper) (v:Value) (a:Act):Prop :=
 (Region.wanted o (yielded ops a.tmps)=true/\∀ w,C w->∃ u,o.quietAt P a (fun w'=>Fr [] w w') w u/\(o.dst=none\/u=v)) \/
 (Region.wanted o (yielded ops a.tmps)=false/\v=undef)
theorem Y3.wpOp {i:Nat} {o:Oper} {v:Value} {a:Act} (hi:ops[i]? = some o) (hy:Y3 P ops C o v a) {K:Act->World->Prop} {w:World} (hw:C w)
  (h:∀ w',Fr [] w w'->K (a.put o.dst v) w'):wpOp P ops Q i K a w:=by
 exact Bs
theorem Y3.of_same {o:Oper} {v:Value} {a a':Act} (hy:Y3 P ops C o v a) (he:execOp a'.eval o=execOp a.eval o)
  (hw:Region.wanted o (yielded ops a'.tmps)=Region.wanted o (yielded ops a.tmps)):Y3 P ops C o v a':=by
 unfold Y3 Oper.quietAt at *;rw [he,hw];exact hy
theorem Y3.other {j:Nat} {oi oj:Oper} {v:Value} (hj:ops[j]? = some oj) (hap:oi.apart ops oj=true)
  (hsi:∀ cs b,oi.op ≠ .select cs b) (hsj:∀ cs b,oj.op ≠ .select cs b)
  (hQ:∀ c a d v w,Q (.panic c) (a.put d v) w->Q (.panic c) a w) {K:Act->World->Prop} {a:Act} {w:World}
  (hy:Y3 P ops C oi v a) (h:Go.wpOp P ops Q j K (a.put oi.dst v) w) :
  Go.wpOp P ops Q j (fun a' w'=>Y3 P ops C oi v a'/\K (a'.put oi.dst v) w') a w:=by
 obtain ⟨h1,h2,h3⟩:=Oper.apart_spec hap
 have keep:∀ (a:Act),Y3 P ops C oi v a->∀ u,Y3 P ops C oi v (a.put oj.dst u):=fun a hy u =>
  hy.of_same (execOp_put oi hsi a oj.dst u h3) (wanted_put oi a oj.dst u h3)
 have keepD:∀ d,Y3 P ops C oi v { a with defers:=d :: a.defers }:=fun d=>hy.of_same rfl rfl
 exact Ad
def K8 (P:Program) (md:Region.Mode) (ops:Array Oper) (Q:Exit->Act->World->Prop) (C:World->Prop) (LA:Array Bool) (g:Nat):Nat->Array Bool->Act->World->Prop
 | 0,listed,a,w=>∀ w2,Fr [] w w2->listed=LA/\wpAny P md ops Q g LA a w2
 | f+1,listed,a,w=>∀ w2,Fr [] w w2->Region.ready md ops listed≠[] /\
   ∀ i∈Region.ready md ops listed,wpOp P ops Q i (fun a' w'=>C w'/\K8 P md ops Q C LA g f (listed.setIfInBounds i true) a' w') a w2
theorem K8.more {f:Nat} {listed:Array Bool} {a:Act} {w w':World} (h:K8 P md ops Q C LA g f listed a w) (k:Fr [] w w'):K8 P md ops Q C LA g f listed a w':=Eu
theorem K8.sound:∀ (f:Nat) (listed:Array Bool) (a:Act) (w:World),K8 P md ops Q C LA g f listed a w->wpAny P md ops Q (f+g) listed a w
 | 0,listed,a,w,h=>by obtain ⟨rfl,h1⟩:=h w (Fr.refl _ _);rw [Nat.zero_add];exact h1
 | f+1,_,_,w,h=>by
  rw [show f+1+g=(f+g)+1 by omega];exact ⟨fun h0=>absurd h0 (h w (Fr.refl _ _)).1,fun i hi=>wpOp_mono (fun a' w' hh=>K8.sound f _ a' w' hh.2) ((h w (Fr.refl _ _)).2 i hi)⟩
theorem K8.first (hC:∀ w w2,C w->Fr [] w w2->C w2) {i:Nat} {oi:Oper} {v:Value} (hi:ops[i]? = some oi) (hsel:Region.noSelect ops=true) (hLB:W9 md ops LA i=true)
  (hQ:∀ c a d v w,Q (.panic c) (a.put d v) w->Q (.panic c) a w):∀ (f:Nat) (listed:Array Bool) (a:Act) (w:World),
   (∀ j oj,ops[j]? = some oj->j≠i->listed.getD j true=false->(∀ e∈oj.after,Region.binds md e=true->e.on≠i)->oi.apart ops oj=true) ->
   i∈Region.ready md ops listed->Y3 P ops C oi v a->C w ->
   K8 P md ops Q C LA g f (listed.setIfInBounds i true) (a.put oi.dst v) w->K8 P md ops Q C LA g (f+1) listed a w
 | f,listed,a,w,hfree,hr,hy,hw,H=>fun w2 h2=>by
  refine ⟨fun h=>Np,fun j hj=>?_⟩;by_cases hji:j=i
  ·subst hji;exact hy.wpOp hi (hC _ _ hw h2) fun w' hw'=>⟨hC _ _ (hC _ _ hw h2) hw',H.more (h2.trans hw')⟩
  ·have hj':=ready_mono (i:=i) hj hji;obtain ⟨hjun,oj,hoj,hall⟩:=mem_ready.1 hj
   have hnot:∀ e∈oj.after,Region.binds md e=true->e.on≠i:=fun e he hb heq=>Ap
   cases f with
   | zero =>
    have hLA:=(H w2 h2).1;exact Bo
   | succ f =>
    have h1:=(H w2 h2).2 j hj';have g2:=hy.other hoj (hfree j oj hoj hji hjun hnot) (fun cs b=>Region.noSelect_spec hsel i oi cs b hi) (fun cs b=>Region.noSelect_spec hsel j oj cs b hoj) hQ h1
    have hfree':∀ k ok,ops[k]? = some ok->k≠i->(listed.setIfInBounds j true).getD k true=false ->
      (∀ e∈ok.after,Region.binds md e=true->e.on≠i)->oi.apart ops ok=true:=fun k ok hk hki hun hno=>by
     refine hfree k ok hk hki ?_ hno
     by_cases hjk:j=k
     ·subst hjk;exact hjun
     ·rw [getD_set_ne true hjk] at hun;exact hun
    refine wpOp_mono (fun a' w' h3=>⟨h3.2.1,K8.first hC hi hsel hLB hQ f (listed.setIfInBounds j true) a' w' hfree' (ready_mono hr (Ne.symm hji)) h3.1 h3.2.1 ?_⟩) g2;exact Dw
theorem Qa (hC:∀ w w2,C w->Fr [] w w2->C w2) (hs:Region.noSelect ops=true) (hQ:∀ c a d v w,Q (.panic c) (a.put d v) w->Q (.panic c) a w) {aE:Act} {n f:Nat} :
  ∀ (m:List Bool) (L:List Oper) (k:Nat) (listed:Array Bool) (a:Act) (w:World),(∀ j,L[j]? = ops[k+j]?)->Qj md ops k m listed=true->Y9 md ops LA k m=true->Tu n (sel m L)=true->a.tmps.size=n->C w ->
   (∀ wf,C wf->wpQuiet P ops (fun w'=>∃ s:In wf,w'=s.at_) (fun a'=>a'=aE) (sel m L) a)->K8 P md ops Q C LA g f (Vd k m listed) aE w->K8 P md ops Q C LA g (f+countB m) listed a w
 | [],L,k,listed,a,w,_,_,_,_,_,hw,h,H=>by
  have h0:a=aE:=by have:=h w hw;cases L <;> exact this
  subst h0;exact H
 | false :: m,[],k,listed,a,w,hL,hB,hW,hd,hn,hw,h,H=>Qa hC hs hQ m [] (k+1) listed a w (fun j=>by have:=hL (j+1);simpa [Nat.add_assoc,Nat.add_comm 1 j] using this) hB hW Ma hn hw (fun wf hf=>by have:=h wf hf;cases m with | nil=>exact this | cons b m=>cases b <;> exact this) H
 | false :: m,o :: L,k,listed,a,w,hL,hB,hW,hd,hn,hw,h,H=>Qa hC hs hQ m L (k+1) listed a w (fun j=>by have:=hL (j+1);simpa [Nat.add_assoc,Nat.add_comm 1 j] using this) hB hW hd hn hw h H
 | true :: m,[],k,listed,a,w,hL,hB,_,_,_,_,_,_=>by
  exfalso
  simp only [Qj,Bool.and_eq_true] at hB
  have hr:k∈Region.ready md ops listed:=by simpa using hB.1.1
  obtain ⟨_,o,ho,_⟩:=mem_ready.1 hr
  have:=hL 0
  simp [ho] at this
 | true :: m,o :: L,k,listed,a,w,hL,hB,hW,hd,hn,hw,h,H=>by
  simp only [Y9,Bool.and_eq_true] at hW
  obtain ⟨hW1,hW2⟩:=hW
  have h0:ops[k]? = some o:=by simpa using (hL 0).symm
  simp only [Qj,Bool.and_eq_true] at hB
  obtain ⟨⟨hr,hf⟩,hB'⟩:=hB
  simp only [sel,Tu,Bool.and_eq_true] at hd
  obtain ⟨hd1,hd2⟩:=hd
  have key:∃ v,Y3 P ops C o v a/\∀ wf,C wf->wpQuiet P ops (fun w'=>∃ s:In wf,w'=s.at_) (fun a'=>a'=aE) (sel m L) (a.put o.dst v):=by
   by_cases hw1:Region.wanted o (yielded ops a.tmps)=true
   ·have h':∀ wf,C wf->o.quiet P a (fun w'=>∃ s:In wf,w'=s.at_) (wpQuiet P ops (fun w'=>∃ s:In wf,w'=s.at_) (fun a'=>a'=aE) (sel m L)):=fun wf hf=>by
     have:=h wf hf
     simp only [sel,wpQuiet] at this
     rwa [qf hw1] at this
    obtain ⟨v,_,hv2⟩:=h' w hw
    have same:∀ wf,C wf->∀ u,wpQuiet P ops (fun w'=>∃ s:In wf,w'=s.at_) (fun a'=>a'=aE) (sel m L) (a.put o.dst u)->o.dst=none\/u=v:=fun wf hf u hu=>by
     cases hod:o.dst with
     | none=>exact .inl rfl
     | some d =>
      rw [hod] at hd1 hu hv2
      simp only [Bool.and_eq_true,decide_eq_true_eq] at hd1
      have e1:=vq (sel m L) _ hd1.2 hu
      have e2:=vq (sel m L) _ hd1.2 hv2
      have hlt:d<a.tmps.size:=by rw [hn];exact hd1.1
      rw [e1] at e2
      simp [Act.put,hlt] at e2
      exact .inr e2
    refine ⟨v,.inl ⟨hw1,fun wf hf=>?_⟩,fun wf hf=>?_⟩
    ·obtain ⟨u,hu1,hu2⟩:=h' wf hf
     refine ⟨u,?_,same wf hf u hu2⟩
     have hq:=hu1 wf ⟨⟨wf,Fr.refl _ _⟩,rfl⟩
     unfold Oper.quietAt at hq ⊢
     generalize (execOp a.eval o).run P wf=r at *
     cases r with
     | ok x w' =>
      cases x <;> simp only [Oper.quietUpon] at hq ⊢
      case value=>exact hq
      case skip=>exact hq
      case enter g args=>exact ⟨hq.1,hq.2.mono fun e w'' ⟨he,s,hs⟩=>⟨he,hs ▸ s.fr⟩⟩
     | halt x w'=>exact hq
    ·obtain ⟨u,_,hu2⟩:=h' wf hf
     rw [<- Zr (same wf hf u hu2)];exact hu2
   ·refine ⟨undef,.inr ⟨by simpa using hw1,rfl⟩,fun wf hf=>?_⟩
    have:=h wf hf
    simp only [sel,wpQuiet] at this
    rwa [qd hw1] at this
  obtain ⟨v,hy,hK⟩:=key
  exact K8.first hC h0 hs hW1 hQ (f+countB m) listed a w (Region.free_spec h0 hf) O0 hy hw
   (Qa hC hs hQ m L (k+1) _ _ w (fun j=>by have:=hL (j+1);simpa [Nat.add_assoc,Nat.add_comm 1 j] using this) hB' hW2 hd2 Nl hw hK H)
end
section
variable {P:Program} {l:List Oper} {Q:Exit->Act->World->Prop} {C:World->Prop} {LA:Array Bool} {g:Nat}
theorem Rk (hC:∀ w w2,C w->Fr [] w w2->C w2) (m:List Bool) (f:Nat) {g' n:Nat} {listed listed':Array Bool} {a:Act} {w:World} (hf:f+countB m=g') (hs:Region.noSelect l.toArray=true) (hB:Qj .any l.toArray 0 m listed=true) (hW:Y9 .any l.toArray LA 0 m=true)
  (hd:Tu n (sel m l)=true) (hn:a.tmps.size=n) (hl:Vd 0 m listed=listed') (hQ:∀ c a d v w,Q (.panic c) (a.put d v) w->Q (.panic c) a w) (hw:C w)
  (h:∃ aE,(∀ wf,C wf->wpQuiet P l.toArray (fun w'=>∃ s:In wf,w'=s.at_) (fun a'=>a'=aE) (sel m l) a)/\K8 P .any l.toArray Q C LA g f listed' aE w):K8 P .any l.toArray Q C LA g g' listed a w:=by
 subst hf;subst hl;obtain ⟨aE,h,H⟩:=h;exact Qa hC hs hQ m l 0 listed a w Lc hB hW hd hn hw h H
theorem jl (i:Nat) {o:Oper} {f:Nat} {listed listed':Array Bool} {a:Act} {w:World} (hr:Region.ready .any l.toArray listed=[i]) (ho:l[i]? = some o) (hl:listed.setIfInBounds i true=listed')
  (h:∀ w2,Fr [] w w2->wpList P l.toArray (Nx Q (fun a' w'=>C w'/\K8 P .any l.toArray Q C LA g f listed' a' w')) [o] a w2):K8 P .any l.toArray Q C LA g (f+1) listed a w:=by
 exact Da
theorem Rm {k:Nat} {a:Act} {w:World} (hg:(l.drop k).length=g) (hB:Region.seqB .any l.toArray g k LA=true) (h:∀ w2,Fr [] w w2->wpList P l.toArray Q (l.drop k) a w2):K8 P .any l.toArray Q C LA g 0 LA a w:=Du
theorem q1s {n:Nat} {listed:Array Bool} {a:Act} {w:World} (C:World->Prop) (LA:Array Bool) (f g:Nat) (hl:f+g=n) (h:K8 P .any l.toArray Q C LA g f listed a w):wpAny P .any l.toArray Q n listed a w:=by subst hl;exact K8.sound _ _ _ _ h
theorem q7k {k:Nat} {a:Act} {w:World} (hd:(l.drop k).length=0) (hB:Region.seqB .any l.toArray 0 k LA=true) (h:∀ w2,Fr [] w w2->Q .normal a w2):K8 P .any l.toArray Q C LA 0 0 LA a w :=
 Rm hd hB (fun w2 h2=>by rw [List.eq_nil_of_length_eq_zero hd];exact h w2 h2)
end
end Go.Proofs.YtleclbldlladmaaGreat.Ar
namespace Go.Proofs.YtleclbldlladmaaGreat.Og
open Go.RowKit Ar
def wrOf (t i:Int):Int:=if 0<=t/\t<8/\0<=i/\i<1000 then t * 1000+i else -1
def thr (x:Int):Int:=if 0<=x/\x<8000 then x / 1000 else -1
def ind (x:Int):Int:=if 0<=x/\x<8000 then x % 1000 else -1
end Go.Proofs.YtleclbldlladmaaGreat.Og
namespace Go.Proofs.YtleclbldlladmaaGreat.Word
open Go.RowKit
def Dr (w w':World):Prop:=∃ m,w'=w.drewN m
theorem Dr.refl (w:World):Dr w w:=⟨0,rfl⟩
theorem Dr.trans {a b c:World} (h:Dr a b) (k:Dr b c):Dr a c:=by obtain ⟨m,rfl⟩:=h;obtain ⟨n,rfl⟩:=k;exact ⟨m+n,by rw [World.drewN_drewN]⟩
def Vh (lo hi n:Int):Int:=if hi<(if n<lo then lo else n) then hi else (if n<lo then lo else n)
theorem heldI_in {lo hi n:Int} (a:lo<=n) (b:n<=hi):Vh lo hi n=n:=by unfold Vh;rw [qd (by omega:¬ n<lo),qd Lb]
theorem q2i {lo hi:Int} (n:Int) (a:lo<=hi):lo<=Vh lo hi n/\Vh lo hi n<=hi:=by unfold Vh;split <;> split <;> omega
theorem heldI_lo {lo hi n:Int} (c:lo<=hi) (a:n<=lo):Vh lo hi n=lo:=by have h:=q2i n c;unfold Vh at h ⊢;split <;> split <;> omega
theorem heldI_hi {lo hi n:Int} (c:lo<=hi) (a:hi<=n):Vh lo hi n=hi:=by have h:=q2i n c;unfold Vh at h ⊢;split <;> split <;> omega
theorem ret_dr {k:IntKind} {a b:Int} {w w':World} (h:a=b) (d:Dr w w'):Ending.returned (.int k a) = .returned (.int k b)/\Dr w w':=⟨by rw [h],d⟩
theorem Zt {k:IntKind} {a b:Int} {w:World} (h:a=b):Ending.returned (.int k a) = .returned (.int k b)/\w=w:=⟨by rw [h],rfl⟩
theorem ret_bool {a b:Bool} {w:World} (h:a=b):Ending.returned (.bool a) = .returned (.bool b)/\w=w:=⟨by rw [h],rfl⟩
/-! ### held: each row of the table -/
/-! ### join,upper,lower -/
theorem q9w (a b:Int) (i:Nat) (hi:i<=24) (h0:0<=a) (h1:a<=1073741824) (h2:0<=b) (h3:b<2 ^ i):wrap64 (bits .or .u64 (a * 2 ^ i) b)=a * 2 ^ i+b:=Aq
def un (a:Int):Int:=a % 18446744073709551616
theorem un_in {a:Int} (h0:0<=a) (h1:a<=9223372036854775807):un a=a:=by unfold un;omega
theorem Jt (a:Int):IntKind.u64.wrap a=un a:=IntKind.wrap_u64 a
theorem q8n (a:Int):0<=un a/\un a<18446744073709551616:=by unfold un;omega
theorem q55 (a d:Int) (hd:2<=d):wrap64 (IntKind.u64.wrap a / d)=un a / d:=by have hb:=q8n a;rw [Jt];have h2:0<=un a / d:=Int.ediv_nonneg hb.1 Lb;have h1:=Int.ediv_mul_le (un a) (show d≠0 by omega);have h3:=Int.mul_le_mul_of_nonneg_left hd h2;exact IntWalk.wrap64_in _ ⟨by omega,by omega⟩
theorem qcg (a:Int) (w:World):Calls Tryz.prog 59 #[.int .i64 a,.int .u64 1] w fun e w'=>e = .returned (.int .i64 (un a / 2))/\w'=w:=by go_enter Tryz.func59,Tryz.ntmps59;go_wp2;go_ret;exact Zt (q55 a 2 Lg)
theorem upper24 (a:Int) (w:World):Calls Tryz.prog 59 #[.int .i64 a,.int .u64 24] w fun e w'=>e = .returned (.int .i64 (un a / 16777216))/\w'=w:=by go_enter Tryz.func59,Tryz.ntmps59;go_wp2;go_ret;exact Zt (q55 a 16777216 Lg)
theorem upper21 (a:Int) (w:World):Calls Tryz.prog 59 #[.int .i64 a,.int .u64 21] w fun e w'=>e = .returned (.int .i64 (un a / 2097152))/\w'=w:=by go_enter Tryz.func59,Tryz.ntmps59;go_wp2;go_ret;exact Zt (q55 a 2097152 Lg)
theorem Kj (a:Int) (i m:Nat) (hm:m+1=2 ^ i) (hi:i<=24):wrap64 (bits .and .u64 (IntKind.u64.wrap a) (m:Int))=a % ((m+1:Nat):Int):=Am
theorem lower1 (a:Int) (w:World):Calls Tryz.prog 58 #[.int .i64 a,.int .u64 1] w fun e w'=>e = .returned (.int .i64 (a % 2))/\w'=w:=by go_enter Tryz.func58,Tryz.ntmps58;go_wp2;go_ret;exact Zt (Kj a 1 1 Lg Lg)
theorem lower24 (a:Int) (w:World):Calls Tryz.prog 58 #[.int .i64 a,.int .u64 24] w fun e w'=>e = .returned (.int .i64 (a % 16777216))/\w'=w:=by go_enter Tryz.func58,Tryz.ntmps58;go_wp2;go_ret;exact Zt (Kj a 24 16777215 Lg Lg)
theorem lower21 (a:Int) (w:World):Calls Tryz.prog 58 #[.int .i64 a,.int .u64 21] w fun e w'=>e = .returned (.int .i64 (a % 2097152))/\w'=w:=by go_enter Tryz.func58,Tryz.ntmps58;go_wp2;go_ret;exact Zt (Kj a 21 2097151 Lg Lg)
/-! ### The face -/
def bit (b:Bool):Int:=if b then 1 else 0
def nextI (p:Int) (b:Bool):Int:=Vh 0 1073741824 p * 2+bit b
def stateI (v:Int):Int:=Vh 0 16777212 v+3
def versionI (s:Int):Int:=if s<3 then -1 else s - 3
def claimI (s p:Int):Int:=Vh 0 1073741824 s * 16777216+Vh 0 16777212 p
def dataI (d v:Int):Int:=Vh 0 1048576 d * 2097152+(Vh (-1) 1048576 v+1)
theorem Xt (a:Int) (w:World):Calls Tryz.prog 35 #[.int .i64 a] w fun e w'=>e = .returned (.int .i64 (un a / 2))/\w'=w:=by go_enter Tryz.func35,Tryz.ntmps35;go_wp2_with fail;refine (qcg _ _).mono ?_;rintro e w' ⟨rfl,rfl⟩;go_wp2;go_ret;exact Zt rfl
def Vd (a:Int):Bool:=decide (a % 2=1)
end Go.Proofs.YtleclbldlladmaaGreat.Word
namespace Go.Proofs.YtleclbldlladmaaGreat.Ar
open Go.RowKit
section
variable {P:Program} {ops:Array Oper} {Q:Exit->Act->World->Prop} {md:Region.Mode} {w0:World} {S:List Nat} {LA:Array Bool} {g:Nat}
def Clo (md:Region.Mode) (ops:Array Oper) (listed:Array Bool):Prop:=∀ k ok,listed.getD k false=true->ops[k]? = some ok->∀ e∈ok.after,Region.binds md e=true->listed.getD e.on false=true
def cloB (md:Region.Mode) (ops:Array Oper) (listed:Array Bool):Bool:=(List.range listed.size).all fun k=>!(listed.getD k false) || (match ops[k]? with | none=>true | some ok=>ok.after.all fun e=>!(Region.binds md e) || listed.getD e.on false)
theorem q71 {listed:Array Bool} (h:cloB md ops listed=true):Clo md ops listed:=by
 intro k ok hk ho e he hb
 have hlt:k<listed.size:=Ew
 have:=List.all_eq_true.1 h k (List.mem_range.2 hlt);rw [hk,ho] at this;simp only [Bool.not_true,Bool.false_or,Array.all_eq_true] at this;obtain ⟨i,hi,rfl⟩:=Array.mem_iff_getElem.1 he;have h2:=this i hi;rw [hb] at h2;simpa using h2
theorem Clo.set {listed:Array Bool} {i:Nat} (h:Clo md ops listed) (hr:i∈Region.ready md ops listed):Clo md ops (listed.setIfInBounds i true):=by
 have keep:∀ k,listed.getD k false=true->(listed.setIfInBounds i true).getD k false=true:=fun k hk=>by
  by_cases e:i=k
  ·subst e;rcases Nat.lt_or_ge i listed.size with h' | h'
   ·simp [h']
   ·simp [Array.getElem?_eq_none h'] at hk
  ·rw [getD_set_ne false e];exact hk
 obtain ⟨_,o,ho,hall⟩:=mem_ready.1 hr;intro k ok hk hok e he hb;by_cases e1:i=k
 ·subst e1;rw [ho] at hok;cases hok;exact keep _ (hall e he hb)
 ·rw [getD_set_ne false e1] at hk;exact keep _ (h k ok hk hok e he hb)
def q9p (md:Region.Mode) (ops:Array Oper) (LA:Array Bool) (i:Nat):Bool:=W9 md ops LA i || ((List.range LA.size).any fun k=>LA.getD k false && (!(decide (k=i)) && Region.waitsFor md ops k i))
theorem q30 {i:Nat} (h:q9p md ops LA i=true):W9 md ops LA i=true\/∃ k ok,k<LA.size/\LA.getD k false=true/\k≠i/\ops[k]? = some ok/\∃ e∈ok.after,Region.binds md e=true/\e.on=i:=by
 unfold q9p at h;rcases Bool.or_eq_true_iff.1 h with h | h
 ·exact .inl h
 ·obtain ⟨k,hk,h2⟩:=List.any_eq_true.1 h;simp only [Bool.and_eq_true,Bool.not_eq_true',decide_eq_false_iff_not] at h2;obtain ⟨ok,h3,h4⟩:=Region.waitsFor_spec h2.2.2;have hlt:=List.mem_range.1 hk;exact .inr ⟨k,ok,hlt,h2.1,h2.2.1,h3,h4⟩
theorem Z0.firstT {i:Nat} {oi:Oper} {v:Value} (hi:ops[i]? = some oi) (hsel:Region.noSelect ops=true) (hLB:q9p md ops LA i=true)
  (hQ:∀ c a d v w,Q (.panic c) (a.put d v) w->Q (.panic c) a w):∀ (f:Nat) (listed:Array Bool) (a:Act) (w:World),
   (∀ j oj,ops[j]? = some oj->j≠i->listed.getD j true=false->(∀ e∈oj.after,Region.binds md e=true->e.on≠i)->oi.apart ops oj=true) ->
   Clo md ops listed->i∈Region.ready md ops listed->U4 P ops S w0 oi v a->Fr S w0 w ->
   Z0 P md ops Q S w0 LA g f (listed.setIfInBounds i true) (a.put oi.dst v) w->Z0 P md ops Q S w0 LA g (f+1) listed a w
 | f,listed,a,w,hfree,hcl,hr,hy,hw,H=>fun w2 h2=>by
  refine ⟨fun h=>Np,fun j hj=>?_⟩;by_cases hji:j=i
  ·exact Co
  ·have hj':=ready_mono (i:=i) hj hji;obtain ⟨hjun,oj,hoj,hall⟩:=mem_ready.1 hj
   have hnot:∀ e∈oj.after,Region.binds md e=true->e.on≠i:=fun e he hb heq=>Ap
   cases f with
   | zero =>
    have hLA:=(H w2 h2).1;rcases q30 hLB with hLB | ⟨k,ok,klt,k1,k2,k3,e,he,hb,hon⟩
    ·exact Bo
    ·rw [<- hLA,getD_set_ne false (Ne.symm k2)] at k1;have c1:=hcl k ok k1 k3 e he hb;rw [hon] at c1;have g0:=(mem_ready.1 hr).1;rcases Nat.lt_or_ge i listed.size with h' | h'
     ·simp [h'] at g0 c1;rw [g0] at c1;cases c1
     ·have:=Array.getElem?_eq_none h';simp [this] at g0
   | succ f =>
    have h1:=(H w2 h2).2 j hj';have g2:=hy.other hoj (hfree j oj hoj hji hjun hnot) (fun cs b=>Region.noSelect_spec hsel i oi cs b hi) (fun cs b=>Region.noSelect_spec hsel j oj cs b hoj) hQ h1
    have hfree':∀ k ok,ops[k]? = some ok->k≠i->(listed.setIfInBounds j true).getD k true=false ->
      (∀ e∈ok.after,Region.binds md e=true->e.on≠i)->oi.apart ops ok=true:=fun k ok hk hki hun hno=>by
     refine hfree k ok hk hki ?_ hno
     by_cases hjk:j=k
     ·subst hjk;exact hjun
     ·rw [getD_set_ne true hjk] at hun;exact hun
    refine wpOp_mono (fun a' w' h3=>⟨h3.2.1,Z0.firstT hi hsel hLB hQ f (listed.setIfInBounds j true) a' w' hfree' (hcl.set hj) (ready_mono hr (Ne.symm hji)) h3.1 h3.2.1 ?_⟩) g2;exact Dw
def Sj (md:Region.Mode) (ops:Array Oper) (LA:Array Bool):Nat->List Bool->Bool
 | k,true :: m=>q9p md ops LA k && Sj md ops LA (k+1) m
 | k,false :: m=>Sj md ops LA (k+1) m
 | _,[]=>true
theorem Q9 (hs:Region.noSelect ops=true) (hQ:∀ c a d v w,Q (.panic c) (a.put d v) w->Q (.panic c) a w) {aE:Act} {n f:Nat} :
  ∀ (m:List Bool) (L:List Oper) (k:Nat) (listed:Array Bool) (a:Act) (w:World),(∀ j,L[j]? = ops[k+j]?)->Clo md ops listed->Qj md ops k m listed=true->Sj md ops LA k m=true->Tu n (sel m L)=true->a.tmps.size=n->Fr S w0 w ->
   (∀ wf,Fr S w0 wf->wpQuiet P ops (fun w'=>∃ s:In wf,w'=s.at_) (fun a'=>a'=aE) (sel m L) a)->Z0 P md ops Q S w0 LA g f (Vd k m listed) aE w->Z0 P md ops Q S w0 LA g (f+countB m) listed a w
 | [],L,k,listed,a,w,_,_,_,_,_,_,_,h,H=>by
  exact De
 | false :: m,[],k,listed,a,w,hL,hC,hB,hW,hd,hn,hw,h,H=>Q9 hs hQ m [] (k+1) listed a w (fun j=>by have:=hL (j+1);simpa [Nat.add_assoc,Nat.add_comm 1 j] using this) hC hB hW Ma hn hw (fun wf hf=>by have:=h wf hf;cases m with | nil=>exact this | cons b m=>cases b <;> exact this) H
 | false :: m,o :: L,k,listed,a,w,hL,hC,hB,hW,hd,hn,hw,h,H=>Q9 hs hQ m L (k+1) listed a w (fun j=>by have:=hL (j+1);simpa [Nat.add_assoc,Nat.add_comm 1 j] using this) hC hB hW hd hn hw h H
 | true :: m,[],k,listed,a,w,hL,hC,hB,_,_,_,_,_,_=>by
  exfalso
  simp only [Qj,Bool.and_eq_true] at hB
  have hr:k∈Region.ready md ops listed:=by simpa using hB.1.1
  obtain ⟨_,o,ho,_⟩:=mem_ready.1 hr
  have:=hL 0
  simp [ho] at this
 | true :: m,o :: L,k,listed,a,w,hL,hC,hB,hW,hd,hn,hw,h,H=>by
  simp only [Sj,Bool.and_eq_true] at hW
  obtain ⟨hW1,hW2⟩:=hW
  have h0:ops[k]? = some o:=by simpa using (hL 0).symm
  simp only [Qj,Bool.and_eq_true] at hB
  obtain ⟨⟨hr,hf⟩,hB'⟩:=hB
  simp only [sel,Tu,Bool.and_eq_true] at hd
  obtain ⟨hd1,hd2⟩:=hd
  have key:∃ v,U4 P ops S w0 o v a/\∀ wf,Fr S w0 wf->wpQuiet P ops (fun w'=>∃ s:In wf,w'=s.at_) (fun a'=>a'=aE) (sel m L) (a.put o.dst v):=by
   by_cases hw1:Region.wanted o (yielded ops a.tmps)=true
   ·have h':∀ wf,Fr S w0 wf->o.quiet P a (fun w'=>∃ s:In wf,w'=s.at_) (wpQuiet P ops (fun w'=>∃ s:In wf,w'=s.at_) (fun a'=>a'=aE) (sel m L)):=fun wf hf=>by
     have:=h wf hf
     simp only [sel,wpQuiet] at this
     rwa [qf hw1] at this
    obtain ⟨v,_,hv2⟩:=h' w0 (Fr.refl _ _)
    have same:∀ wf,Fr S w0 wf->∀ u,wpQuiet P ops (fun w'=>∃ s:In wf,w'=s.at_) (fun a'=>a'=aE) (sel m L) (a.put o.dst u)->o.dst=none\/u=v:=fun wf hf u hu=>by
     cases hod:o.dst with
     | none=>exact .inl rfl
     | some d =>
      rw [hod] at hd1 hu hv2
      simp only [Bool.and_eq_true,decide_eq_true_eq] at hd1
      have e1:=vq (sel m L) _ hd1.2 hu
      have e2:=vq (sel m L) _ hd1.2 hv2
      have hlt:d<a.tmps.size:=by rw [hn];exact hd1.1
      rw [e1] at e2
      simp [Act.put,hlt] at e2
      exact .inr e2
    refine ⟨v,.inl ⟨hw1,fun wf hf=>?_⟩,fun wf hf=>?_⟩
    ·obtain ⟨u,hu1,hu2⟩:=h' wf hf
     refine ⟨u,?_,same wf hf u hu2⟩
     have hq:=hu1 wf ⟨⟨wf,Fr.refl _ _⟩,rfl⟩
     unfold Oper.quietAt at hq ⊢
     generalize (execOp a.eval o).run P wf=r at *
     cases r with
     | ok x w' =>
      cases x <;> simp only [Oper.quietUpon] at hq ⊢
      case value=>exact hq
      case skip=>exact hq
      case enter g args=>exact ⟨hq.1,hq.2.mono fun e w'' ⟨he,s,hs⟩=>⟨he,hs ▸ s.fr⟩⟩
     | halt x w'=>exact hq
    ·obtain ⟨u,_,hu2⟩:=h' wf hf
     rw [<- Zr (same wf hf u hu2)];exact hu2
   ·refine ⟨undef,.inr ⟨by simpa using hw1,rfl⟩,fun wf hf=>?_⟩
    have:=h wf hf
    simp only [sel,wpQuiet] at this
    rwa [qd hw1] at this
  obtain ⟨v,hy,hK⟩:=key
  exact Z0.firstT h0 hs hW1 hQ (f+countB m) listed a w (Region.free_spec h0 hf) hC O0 hy hw
   (Q9 hs hQ m L (k+1) _ _ w (fun j=>by have:=hL (j+1);simpa [Nat.add_assoc,Nat.add_comm 1 j] using this) (hC.set O0) hB' hW2 hd2 Nl hw hK H)
end
section
variable {P:Program} {l:List Oper} {Q:Exit->Act->World->Prop} {w0:World} {S:List Nat} {LA:Array Bool} {g:Nat}
theorem envT_pass (m:List Bool) (f:Nat) {g' n:Nat} {listed listed':Array Bool} {a:Act} {w:World} (hf:f+countB m=g') (hs:Region.noSelect l.toArray=true) (hC:cloB .any l.toArray listed=true) (hB:Qj .any l.toArray 0 m listed=true) (hW:Sj .any l.toArray LA 0 m=true)
  (hd:Tu n (sel m l)=true) (hn:a.tmps.size=n) (hl:Vd 0 m listed=listed') (hQ:∀ c a d v w,Q (.panic c) (a.put d v) w->Q (.panic c) a w) (hw:Fr S w0 w)
  (h:∃ aE,(∀ wf,Fr S w0 wf->wpQuiet P l.toArray (fun w'=>∃ s:In wf,w'=s.at_) (fun a'=>a'=aE) (sel m l) a)/\Z0 P .any l.toArray Q S w0 LA g f listed' aE w):Z0 P .any l.toArray Q S w0 LA g g' listed a w:=by
 subst hf;subst hl;obtain ⟨aE,h,H⟩:=h;exact Q9 hs hQ m l 0 listed a w Lc (q71 hC) hB hW hd hn hw h H
end
end Go.Proofs.YtleclbldlladmaaGreat.Ar
namespace Go.Proofs.YtleclbldlladmaaGreat.Mx
open Go.RowKit Ar Ref
def Pb (w:World) (b:Nat) (T:TypeId) (pre post cs:Array Value):Prop:=Ob w b T (pre++cs++post)
theorem Pb.lt {w:World} {b:Nat} {T:TypeId} {pre post cs:Array Value} (h:Pb w b T pre post cs):b<w.heap.size:=Ob.lt h
theorem Pb.kept {S:List Nat} {w w':World} {b:Nat} {T:TypeId} {pre post cs:Array Value} (h:Pb w b T pre post cs) (f:Fr S w w') (hb:b∉S):Pb w' b T pre post cs:=Ob.kept h f hb
theorem Pb.up {w w':World} {b:Nat} {T:TypeId} {pre post cs:Array Value} (h:Pb w b T pre post cs) (f:Fr [] w w'):Pb w' b T pre post cs:=Ob.up h f
theorem Pb.frozen {w:World} {b:Nat} {T:TypeId} {pre post cs:Array Value} (h:Pb w b T pre post cs) (i:Nat):w.frozen? ⟨b,i,none⟩=false:=Ob.frozen h i
theorem Pb.cell {w:World} {b:Nat} {T:TypeId} {pre post cs:Array Value} (h:Pb w b T pre post cs) {o:Nat} (ho:pre.size=o) {i:Nat} {v:Value} (hv:cs[i]? = some v):w.cell? ⟨b,o+i,none⟩=some v:=by subst ho;have hi:=(Array.getElem?_eq_some_iff.1 hv).1;refine Ob.cell h ?_;rw [Array.getElem?_append_left Ll,Array.getElem?_append_right Lb,show pre.size+i - pre.size=i by omega];exact hv
theorem Pb.set {w:World} {b:Nat} {T:TypeId} {pre post cs:Array Value} (h:Pb w b T pre post cs) {o:Nat} (ho:pre.size=o) {i:Nat} (hi:i<cs.size) (v:Value):Pb (w.setCell ⟨b,o+i,none⟩ v) b T pre post (cs.setIfInBounds i v):=by
 subst ho;have:=Ob.set (i:=pre.size+i) h v;unfold Pb
 have e:(pre++cs++post).setIfInBounds (pre.size+i) v=pre++cs.setIfInBounds i v++post:=by
  apply Array.ext';simp only [Array.toList_setIfInBounds,Array.toList_append];have h1:pre.toList.length=pre.size:=by simp
  have h2:cs.toList.length=cs.size:=by simp
  rw [List.append_assoc,List.append_assoc,List.set_append_right _ _ Lb,h1,show pre.size+i - pre.size=i by omega,List.set_append_left _ _ Lb]
 rw [<- e];exact this
end Go.Proofs.YtleclbldlladmaaGreat.Mx
