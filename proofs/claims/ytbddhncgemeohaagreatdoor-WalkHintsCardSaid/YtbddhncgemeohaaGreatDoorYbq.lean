/- Parts. -/
import Derived.Test.YtbddhncgemeohaaGreatDoorYbg
import Derived.Test.YtbddhncgemeohaaGreatDoorYbn
set_option linter.unusedVariables false
set_option linter.unusedSimpArgs false
set_option maxRecDepth 100000
set_option maxHeartbeats 12800000
namespace Go.Proofs.YtbddhncgemeohaaGreatDoor.Dw
open Go.RowKit Ar Og Ref Mx Vw Wd Ch Rf
theorem q6a {c:Cf} {rs:List (List O)} {ps0:List Int} (ds ps:List Int) (h0:Z0 c.t c.c c.wd c.v rs ps0=0) (hp:ps.length<=8000):∃ g,OkG c g (q4q c rs ds ps).a.l:=Ft
theorem q88 (x:Wk) (s:St):(x.step s).1.c=x.c/\(x.step s).1.key=x.key:=Ed
theorem q7f (x:Wk) (s:St):(x.step s).2.l=s.l:=by unfold Wk.step;split <;> rfl
def HiAt (c:Cf) (L l:List Int) (W:World) (b p q:Nat) (key:Int) (iv:Value) (wr:World):Prop:=∃ (i k:Nat) (x:Wk) (s:St),iv = .int .i64 i/\i+k=4+2 * L.length/\x.line≠0/\WkT c (qx l) L x k/\s.l=l/\x.key=key/\q4z wr b x/\Ar wr p q s/\Fr [b,p,q] W wr
theorem q5e (c:Cf) (rs:List (List O)) (ps ds:List Int) (ov pv dv:Value) (ss:List Sv) (R:List Nat) (k hv wv:Int) (hk:0<=k/\k<=255) (hhv:0<=hv/\hv<=65535) (hwv:0<=wv/\wv<=255) (w:World) (t:Fl w)
  (hS:Tf w (.agg #[.int .i64 c.t,.int .i64 c.c,.int .i64 c.wd,.int .i64 c.v,ov,pv,dv]) c rs ps ds ov pv dv ss R) :
  Calls Tryz.prog 4 #[.agg #[.int .i64 c.t,.int .i64 c.c,.int .i64 c.wd,.int .i64 c.v,ov,pv,dv],.int .u8 k,.int .u16 hv,.int .u8 wv] w fun e w'=>e = .returned (.bool true)/\Fr [] w w':=by
 have HS:=qb hS;have F0:=(Fr.refl [] w).alloc (.cells #[.int .i64 c.t,.int .i64 c.c,.int .i64 c.wd,.int .i64 c.v,ov,pv,dv] 27);have o1:=Ob.new w 27 #[.int .i64 c.t,.int .i64 c.c,.int .i64 c.wd,.int .i64 c.v,ov,pv,dv];clear hS;go_enter Tryz.func4,Tryz.ntmps4;go_wp2_with fail;generalize World.alloc w _=w0 at *;generalize hb1:w.heap.size=b1 at *;refine (U2 w0 (t.up F0)).mono ?_;rintro e w1 ⟨rfl,F1⟩;have G:=F0.trans F1;replace o1:=o1.up F1;clear F0 F1;have HX:=qb (qd hb1 o1.lt);clear hb1;have d0:=Ob.cell (i:=0) o1 rfl;have d1:=Ob.cell (i:=1) o1 rfl;have d2:=Ob.cell (i:=2) o1 rfl;have d3:=Ob.cell (i:=3) o1 rfl;have d4:=Ob.cell (i:=4) o1 rfl;have d5:=Ob.cell (i:=5) o1 rfl;have d6:=Ob.cell (i:=6) o1 rfl;go_wp2_with fail;refine (q2u c.t c.c c.wd c.v rs ps ds _ 300 _ (HS.out.scr.up G)).mono ?_;rintro e w2 ⟨rfl,F2⟩;replace G:=G.trans F2;replace o1:=o1.up F2;clear d0 d1 d2 d3 d4 d5 d6 F2;have d0:=Ob.cell (i:=0) o1 rfl;have d1:=Ob.cell (i:=1) o1 rfl;have d2:=Ob.cell (i:=2) o1 rfl;have d3:=Ob.cell (i:=3) o1 rfl;have d4:=Ob.cell (i:=4) o1 rfl;have d5:=Ob.cell (i:=5) o1 rfl;have d6:=Ob.cell (i:=6) o1 rfl;cases hw:Ka c.t c.c c.wd c.v rs ps ds 300 with
 | true =>
  exact Hz
 | false =>
  have HW:=qb (Jq hw);clear hw;have HT:=qb (qd t hk);have HV:=qb (qd hhv hwv);clear t hk hhv hwv;have HC0:=qb (q1d HW.out.2.2.2.2.2).1;go_wp2_with fail;refine qq Me ?_;refine za [] w2 #[true,true,true,true,true,false,false] 5 2 rfl ?_;refine jw [true,true,true,false,false,false,false] 2 (n:=88) (listed':=#[true,true,true,false,false,false,false]) rfl Me Me Me Me Me rfl Me (fun _ _ d _ _ h=>by cases d <;> exact h) ((Fr.refl _ w2).drew) ?_;apply qh;refine ⟨fun wf Ff=>?_,?_⟩
  ·exact Iq
  have HG:=qb G;clear d0 d1 d2 d3 d4 d5 d6 o1 G;refine jc [3,4] Me Ma (fun w3 F3 i hi o ho=>?_);have D3:=(Fr.refl [] w2).drew.trans F3;rcases (by simpa using hi:i=3\/i=4) with rfl | rfl
  case' inl =>
   obtain rfl:=qj ho;clear ho hi;go_wp2_with fail;refine (Je c rs ps ds ov pv dv ss R _ _ (HS.out.up (HG.out.trans D3)) HW.out.2.2.2.2.2 O2).mono ?_;rintro e w4 ⟨pr,qr,rfl,hpr,hqr,Hr,F4⟩;have D4:=D3.trans F4;go_wp2_with fail;refine qo ⟨D4,?_⟩;refine loq 4 (fun w5 F5=>?_);have D5:=D4.trans F5;have oz:=Ob.new w5 23 #[.int .i64 0,.int .i64 0,.int .i64 0,.int .i64 0];have FA:=(Fr.refl [] w5).alloc (.cells #[.int .i64 0,.int .i64 0,.int .i64 0,.int .i64 0] 23);have hbc:=D5.size;have hne0:pr≠w5.heap.size/\qr≠w5.heap.size:=by have:=Hr.lt;have:=F5.size;omega
   go_wp2_with fail;generalize World.alloc w5 _=w6 at *;generalize w5.heap.size=bc at *;refine qo ⟨D5.trans FA,?_⟩;refine qy (k:=5) rfl Me (fun w7 F7=>?_);have o7:=oz.up F7;have E7:=F5.trans (FA.trans F7);replace Hr:=Hr.kept E7;have G:=HG.out.trans (D4.trans E7)
  case' inr =>
   obtain rfl:=qj ho;clear ho hi;have oz:=Ob.new w3 23 #[.int .i64 0,.int .i64 0,.int .i64 0,.int .i64 0];have FA:=(Fr.refl [] w3).alloc (.cells #[.int .i64 0,.int .i64 0,.int .i64 0,.int .i64 0] 23);have hbc:=D3.size;go_wp2_with fail;generalize World.alloc w3 _=w4 at *;generalize w3.heap.size=bc at *;refine qo ⟨D3.trans FA,?_⟩;refine loq 3 (fun w5 F5=>?_);have D5:=(D3.trans FA).trans F5;replace oz:=oz.up F5;go_wp2_with fail;refine (Je c rs ps ds ov pv dv ss R _ _ (HS.out.up (HG.out.trans D5)) HW.out.2.2.2.2.2 O2).mono ?_;rintro e w6 ⟨pr,qr,rfl,hpr,hqr,Hr,F6⟩;have hne0:pr≠bc/\qr≠bc:=by have:=oz.lt;omega
   go_wp2_with fail;refine qo ⟨D5.trans F6,?_⟩;refine qy (k:=5) rfl Me (fun w7 F7=>?_);have o7:=(oz.up F6).up F7;replace Hr:=Hr.kept F7;have G:=HG.out.trans ((D5.trans F6).trans F7)
  all_goals
   have hbw:w.heap.size<=bc:=qi HG.out.size hbc
   have hbl:=o7.lt
   have hrl:=Hr.lt
   have HQ:=qb (show w.heap.size<=qr by have:=HG.out.size;have:=D3.size;have:=D5.size;omega)
   clear hpr hqr
   obtain ⟨z0,z1,z2,z3⟩:=Pl.xj o7
   have zf:=o7.frozen
   have hk:=HT.out.2
   have hhv:=HV.out.1
   have hwv:=HV.out.2
   have F8:Fr [bc] w7 ((((w7.setCell ⟨bc,0,none⟩ (.int .i64 c.t)).setCell ⟨bc,1,none⟩ (.int .i64 c.c)).setCell ⟨bc,2,none⟩ (.int .i64 c.wd)).setCell ⟨bc,3,none⟩ (.int .i64 c.v)):=(((Fr.setCell (S:=[bc]) (b:=bc) _ Ma).setCell' (b:=bc) _ Ma).setCell' (b:=bc) _ Ma).setCell' (b:=bc) _ Ma
   have o8:Ob ((((w7.setCell ⟨bc,0,none⟩ (.int .i64 c.t)).setCell ⟨bc,1,none⟩ (.int .i64 c.c)).setCell ⟨bc,2,none⟩ (.int .i64 c.wd)).setCell ⟨bc,3,none⟩ (.int .i64 c.v)) bc 23 #[.int .i64 c.t,.int .i64 c.c,.int .i64 c.wd,.int .i64 c.v]:=Ob.set (i:=3) (Ob.set (i:=2) (Ob.set (i:=1) (Ob.set (i:=0) o7 (.int .i64 c.t)) (.int .i64 c.c)) (.int .i64 c.wd)) (.int .i64 c.v)
   go_wp2_with fail
   clear z0 z1 z2 z3 zf o7
   generalize World.setCell (World.setCell (World.setCell (World.setCell w7 _ _) _ _) _ _) _ _=w8 at *
   replace Hr:=Hr.kept F8 (by simpa using hne0.1) (by simpa using hne0.2)
   have G8:=G.own F8 (by simpa using hbw)
   have hbc8:=o8.lt
   have hr8:=Hr.lt
   clear F8 G hbl hrl
   have hgl:=q6a ds ps HW.out.2.2.2.2.2 O2
   obtain ⟨n,hn⟩:=Int.eq_ofNat_of_zero_le (show 0<=c.c by have:=HC0.out.c2;have:=HC0.out.t1;omega)
   have HN0:=qb (show c.c=(n:Int)/\1<=n/\n<=16/\1<=c.t/\c.t<=8 by have:=HC0.out.c2;have:=HC0.out.t1;have:=HC0.out.c16;have:=HC0.out.t8;omega)
   generalize (q4q c rs ds ps).a=s at *
   obtain ⟨g,hg⟩:=hgl
   obtain ⟨L,hC⟩:=qal HC0.out hg
   have HGI:=qb (qd hg (qd hC (hC.Kn HC0.out hg hn)))
   have HRr:=qb Hr
   clear hg hC hn
   have hAL:=Uq c.t c.wd c.v n pr qr s _ HN0.out.2.2.2.1 HN0.out.2.2.2.2 HN0.out.2.1 HN0.out.2.2.1 Hr
   rw [<- HN0.out.1,HGI.out.2.2] at hAL
   have HC8:=qb o8
   have HR8:=qb Hr
   have HG8:=qb G8
   refine hAL.mono ?_;rintro e w9 ⟨⟨u,rfl,hu⟩,F9⟩
   have HF9:=qb F9
   have hs:=qb (Sq.own hu)
   obtain ⟨au,cu,rfl,-,-⟩:=kg hu
   have hne:1<=L.length:=by
    have:=HGI.out.2.1.ne
    cases L with
    | nil=>exact absurd rfl this
    | cons a r=>simp
   have hll:=(Jl (qx s.l) s.l.length n c.t).le
   rw [HGI.out.2.2] at hll
   have hhi:=HR8.out.hi
   have q1:decide ((L.length:Int)=0)=false:=decide_eq_false Ly
   have q2:((L.length:Int) == 0)=false:=by rw [beq_eq_false_iff_ne];omega
   obtain ⟨hb1,hb2,hb3,hb4⟩:1<=c.c/\c.c<=16/\1<=c.t/\c.t<=8:=by have:=HN0.out;omega
   obtain ⟨j,hjj,hjl⟩:∃ j:Nat,hv % (L.length:Int)=(j:Int)/\j<L.length:=⟨(hv % (L.length:Int)).toNat,by have:=Int.emod_nonneg hv (show (L.length:Int)≠0 by omega);omega,by have:=Int.emod_nonneg hv (show (L.length:Int)≠0 by omega);have:=Int.emod_lt_of_pos hv (show (0:Int)<(L.length:Int) by omega);omega⟩
   obtain ⟨x,hx⟩:∃ x,L[j]? = some x:=⟨L[j],List.getElem?_eq_getElem hjl⟩
   obtain ⟨-,gb,off,e,hcx⟩:=Sq.cell Ub hs.out hx
   have hc0:w9.cell? ⟨gb,off+j,none⟩=some (.int .i64 x):=by simpa using hcx 0 _ rfl
   subst e
   have HXM:=qb (List.mem_of_getElem? hx)
   have o9:=HC8.out.up HF9.out
   obtain ⟨e0,e1,e2,e3⟩:=Pl.xj o9
   have HO9:=qb o9
   have HR9:=qb (HR8.out.kept HF9.out Ma Ma)
   have HG9:=qb (HG8.out.trans HF9.out)
   have HNE:=qb hne0
   have hk64:0<=k % 64/\k % 64<=63:=by omega
   have HK64:=qb hk64
   clear hAL hu F9 Hr o8 G8 hx hcx o9 hne0 hk64 HR8 HC8 HG8
   rcases (by omega:wv % 3=0\/wv % 3=1\/wv % 3=2) with w3' | w3' | w3'
   case' inl =>
    go_wp2_with fail
    clear e0 e1 e2 e3 hc0
    obtain ⟨lf,hlf⟩:∃ lf:List Int,lf=vg s.l (yn c (k % 64)) 0:=⟨_,rfl⟩
    have HT3:=qb (qb8 HC0.out HGI.out.1 HGI.out.2.1 HN0.out.1 (k:=k % 64) HK64.out (.inl rfl) (v:=0) (.inl rfl))
    have HLF:=qb hlf
    clear hlf
    have HERS:=qb (Eq.refl s.l)
    have HRX:=qb HR9.out
    have HOX:=qb HO9.out
    have HGX:=qb HG9.out
   case' inr.inl =>
    go_wp2_with fail
    clear e0 e1 e2 e3 hc0
    obtain ⟨lf,hlf⟩:∃ lf:List Int,lf=vg s.l (yn c (k % 64)) x:=⟨_,rfl⟩
    have HT3:=qb (qb8 HC0.out HGI.out.1 HGI.out.2.1 HN0.out.1 (k:=k % 64) HK64.out (.inl rfl) (v:=x) (.inr (.inl HXM.out)))
    have HLF:=qb hlf
    clear hlf
    have HERS:=qb (Eq.refl s.l)
    have HRX:=qb HR9.out
    have HOX:=qb HO9.out
    have HGX:=qb HG9.out
   case' inr.inr =>
    go_wp2_with fail
    refine (Ref.Yj c.t c.c c.wd c.v Ly Ly Ly Ly _).mono ?_;rintro e w10 ⟨rfl,F10⟩
    clear e0 e1 e2 e3 hc0
    have o10:=HO9.out.up F10
    have HR10:=qb (HR9.out.kept F10 Ma Ma)
    have HG10:=qb (HG9.out.trans F10)
    have HO10:=qb o10
    clear F10 o10
    go_wp2_with fail
    refine (Ref.Q3 _ pr qr s _ _ HR10.out).mono ?_;rintro e w11 ⟨rfl,R11,F11⟩
    rw [show 21+c.t+3 * c.c+1+6=28+c.t+3 * c.c by omega] at R11
    have HRX:=qb R11
    have HOX:=qb (HO10.out.kept F11 (by simpa using (fun e=>HNE.out.2 e.symm)))
    have HGX:=qb (HG10.out.own F11 (by simpa using HQ.out))
    clear R11 F11
    go_wp2_with fail
    refine (Ref.ja _ pr qr _ _ HRX.out).mono ?_;rintro e _ ⟨rfl,rfl⟩
    rw [show 21+c.t+3 * c.c+1+6=28+c.t+3 * c.c by omega]
    have ers:(s.vg (28+c.t+3 * c.c) 1).l=vg s.l (28+c.t+3 * c.c) 1:=rfl
    rw [ers]
    have HERS:=qb ers
    clear ers
    by_cases hp1:qx (vg s.l (28+c.t+3 * c.c) 1) (28+c.t+3 * c.c)=1
    case neg =>
     have q9:(qx (vg s.l (28+c.t+3 * c.c) 1) (28+c.t+3 * c.c) != 1)=true:=by simpa using hp1
     clear hp1
     generalize qx (vg s.l (28+c.t+3 * c.c) 1) (28+c.t+3 * c.c)=pv at *
     go_wp2_with fail
     go_ret
     exact ⟨rfl,HGX.out⟩
    obtain ⟨lf,hlf⟩:∃ lf:List Int,lf=vg (vg s.l (28+c.t+3 * c.c) 1) (yn c (k % 64)) (22+c.t+3 * c.c):=⟨_,rfl⟩
    have HT3:=qb (qb8 HC0.out HGI.out.1 HGI.out.2.1 HN0.out.1 (k:=k % 64) HK64.out (.inr rfl) (v:=22+c.t+3 * c.c) (.inr (.inr ⟨rfl,hp1⟩)))
    have HLF:=qb hlf
    have q9:(qx (vg s.l (28+c.t+3 * c.c) 1) (28+c.t+3 * c.c) != 1)=false:=by simp [hp1]
    clear hlf hp1
    generalize qx (vg s.l (28+c.t+3 * c.c) 1) (28+c.t+3 * c.c)=pv at *
    generalize (s.vg (28+c.t+3 * c.c) 1)=s' at *
    obtain ⟨e0,e1,e2,e3⟩:=Pl.xj HOX.out
    go_wp2_with fail
    clear e0 e1 e2 e3
   all_goals
    have hof:=q5l c.t c.wd c.v (k % 64) n pr qr _ _ HN0.out.2.2.2.1 HN0.out.2.2.2.2 HN0.out.2.1 HN0.out.2.2.1 HRX.out
    have HSTL:=qb (show Stl c (qx lf) L (k % 64) from HLF.out.symm ▸ HT3.out.stl)
    have hwt:ofW (qx lf) L (k % 64)=_:=HLF.out.symm ▸ HT3.out.of_
    rw [HERS.out,HT3.out.all,<- hwt,<- HN0.out.1] at hof
    clear hwt
    generalize hww:ofW (qx lf) L (k % 64)=want at hof
    have HW2:=qb hww
    clear hww
    refine hof.mono ?_;rintro e wA ⟨rfl,FA1⟩
    have HRA:=qb (HRX.out.kept FA1 Ma Ma)
    have HOA:=qb (HOX.out.up FA1)
    have HGA:=qb (HGX.out.trans FA1)
    clear hof FA1
    go_wp2_with fail
    refine (Tu pr qr _ _ HRA.out).mono ?_;rintro e wB ⟨pa,qa,rfl,hpa,hqa,Ha,FB⟩
    have hobl:=HOA.out.lt
    have hgsz:=HGA.out.size
    have HPQ:=qb (show (bc≠pa/\bc≠qa)/\w.heap.size<=pa/\w.heap.size<=qa by omega)
    have HOB:=qb (HOA.out.up FB)
    have HGB:=qb (HGA.out.trans FB)
    have HAB:=qb Ha
    clear hobl hgsz hpa hqa Ha FB
    obtain ⟨e0,e1,e2,e3⟩:=Pl.xj HOB.out
    go_wp2_with fail
    refine (Ref.Vu c.t c.c c.wd c.v (k % 64) Ly Ly HK64.out.1 HK64.out.2 _).mono ?_;rintro e wC ⟨rfl,FC⟩
    have HAC:=qb (HAB.out.kept FC)
    have HOC:=qb (HOB.out.up FC)
    have HGC:=qb (HGB.out.trans FC)
    clear e0 e1 e2 e3 FC
    go_wp2_with fail
    refine (Ar.Q3 _ pa qa _ _ _ HAC.out).mono ?_;rintro e wD ⟨rfl,AD,FD⟩
    have hlv:∃ st:St,Ar wD pa qa st/\st.l=lf:=⟨_,AD,by
     rw [HLF.out]
     show vg _ (3+c.t+k % 64 / 16) _=_
     first
     | rfl
     | (rw [HERS.out,show 21+c.t+3 * c.c+1=22+c.t+3 * c.c by omega];rfl)⟩
    obtain ⟨st,hAst,hstl⟩:=hlv
    have hqa:=HPQ.out.2.2
    have HOD:=qb (HOC.out.kept FD (by simpa using HPQ.out.1.2))
    have HGD:=qb (HGC.out.own FD (by simpa using hqa))
    have HAD:=qb hAst
    have HSL:=qb hstl
    clear AD hqa FD hAst hstl
    obtain ⟨e0,e1,e2,e3⟩:=Pl.xj HOD.out
    go_wp2_with fail
    refine (Ue c HC0.out (k % 64) HK64.out _).mono ?_;rintro e wE ⟨b,rfl,hb,D,FE⟩
    have hfl:=qe3 HT.out.1
    have hGs:=HGD.out.size
    have hal:=HAD.out.lt
    have HN:=qb (show (b≠pa/\b≠qa)/\(0≠b/\0≠pa/\0≠qa)/\(w.heap.size<=b/\w.heap.size<=pa/\w.heap.size<=qa) by have:=HPQ.out.2;omega)
    have HGE:=qb (HGD.out.trans FE)
    have A:=HAD.out.kept FE
    clear e0 e1 e2 e3 FE hb hfl hGs hal
    go_wp2_with fail
    go_loopw [17] (fun iv wr=>HiAt c L lf wE b pa qa (k % 64) iv wr) (fun iv _=>200 - (intOf iv).toNat)
    case' atStart=>exact ⟨0,4+2 * L.length,Wk.new c (k % 64),st,rfl,by omega,by simp [Wk.new],WkT.new L HK64.out,HSL.out,rfl,D,A,Fr.refl _ _⟩
    obtain ⟨i,kk,x0,s2,rfl,hik,h0,hW,hl,hxk,D2,A2,F⟩:=hrel
    have hSt:Stl c (qx s2.l) L (k % 64):=by rw [hl];exact HSTL.out
    have hW2:WkT c (qx s2.l) L x0 kk:=by rw [hl];exact hW
    have hst:=Zl D2 ((HT.out.1.up HGE.out).kept F Od) A2 HN.out.1 HN.out.2.1.2 (fun l5=>WkT.next HC0.out hSt hW2 l5)
    have HST:=qb hst
    have hst2:=WkT.step HC0.out hSt hW2 hxk h0
    rw [hl] at hst2
    have HI:=qb (qd hik (qd hst2 (qd ((q7f x0 s2).trans hl) ((q88 x0 s2).2.trans hxk))))
    have hfew:=HSTL.out.few
    have HFF:=qb F
    have hi9:i<=150:=by omega
    have q5:decide ((i:Int)>4000)=false:=by simp;omega
    have q6:decide (i>4000)=false:=by simp;omega
    clear hst hst2 hSt hW2 D2 A2 F hik h0 hW hl hxk D A
    go_wp2_with fail
    refine HST.out.mono ?_;rintro e wF ⟨rfl,D3,A3,F3⟩
    have HF3:=qb (HFF.out.trans F3)
    clear F3
    by_cases hz:(x0.step s2).1.line=0
    case' pos =>
     have hend:=HI.out.2.1.2.b0 hz
     rw [HI.out.2.2.2] at hend
     have hch:=Xp D3
     rw [qg hz,hend.1,HW2.out] at hch
     have HCH:=qb hch
     rw [decide_eq_true hz]
     clear hch hend hz HST
     go_wp2_with fail
     refine HCH.out.mono ?_;rintro e _ ⟨rfl,rfl⟩
     go_wp2
     go_ret
     exact ⟨by simp,HGE.out.own HF3.out (by have:=HN.out.2.2;simp;omega)⟩
    rw [decide_eq_false hz]
    have HZ:=qb hz
    clear hz
    go_wp2_with fail
    go_roundw
    case' rel=>exact ⟨i+1,kk - 1,_,_,by go_num,by have:=HI.out.1;have:=HI.out.2.1.1;omega,HZ.out,HI.out.2.1.2,HI.out.2.2.1,HI.out.2.2.2,D3,A3,HF3.out⟩
    case' measure =>
     show 200 - ((i:Int)+1).toNat<200 - ((i:Int)).toNat
     omega
    all_goals (exfalso;omega)
end Go.Proofs.YtbddhncgemeohaaGreatDoor.Dw
namespace Go.Proofs.YtbddhncgemeohaaGreatDoor.Dw
open Go.RowKit Ar Og Ref Mx Vw Wd
theorem q4a {H:Type} {enc:TypeId×Value->H} {r:Reach} {b0:Nat} {d:DataW H} {p:List MemPlace} {s:Value} (k hv wv:Int) (W:World) (t0:Fl W) (hs:Value.okWide Tryz.prog W r b0 27 s) (h:DataW.Trod enc Tryz.prog W 0 (fun _=>true) true 27 s d p) (hk:0<=k/\k<=255) (hh:0<=hv/\hv<=65535) (hw:0<=wv/\wv<=255) :
  Calls Tryz.prog 4 #[s,.int .u8 k,.int .u16 hv,.int .u8 wv] W fun e w'=>e = .returned (.bool true)/\Fr [] W w':=by
 obtain ⟨t,c,wd,vv,vo,vp,vd,rs,ss,ps,ds,rfl,k1,k2,k3,k4,k5⟩:=Op10.q1w hs h;exact q5e ⟨t,c,wd,vv⟩ rs ps ds vo vp vd ss (List.range W.heap.size) k hv wv hk hh hw W t0 (qao (c:=⟨t,c,wd,vv⟩) k1 k2 k3 k4 k5)
end Go.Proofs.YtbddhncgemeohaaGreatDoor.Dw
