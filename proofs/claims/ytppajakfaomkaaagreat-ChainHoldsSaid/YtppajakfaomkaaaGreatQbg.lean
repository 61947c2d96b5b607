/- ChainHolds and ChainParts: whatever the input, each law returns true and the input reads as it did. No further condition. -/
import Derived.Test.YtppajakfaomkaaaGreatQad
import Derived.Test.YtppajakfaomkaaaGreatQav
import Derived.Test.YtppajakfaomkaaaGreatQbd
import Derived.Test.YtppajakfaomkaaaGreatQbf
set_option linter.unusedVariables false
set_option linter.unusedSimpArgs false
set_option maxRecDepth 100000
set_option maxHeartbeats 12800000
namespace Go.Proofs.YtppajakfaomkaaaGreat.Ch
open Go.RowKit Ar Og Ref Mx Vw Wd
theorem q3l {c:Cf} {rs:List (List O)} {ps0:List Int} (ds ps:List Int) (h0:Qg c.t c.c c.wd c.v rs ps0=0) (hp:ps.length<=8000) {n:Nat} (hn:c.c=(n:Int)):∃ L up,Row7 (q2m c rs ds ps).a.l n c.t L up:=by
 have hc:=(q24 h0).1
 obtain ⟨g,h,e⟩:=qdy ds hc (q38 ds h0) ps (by omega)
 obtain ⟨L,R⟩:=row7 hc h.ok hn
 exact ⟨L,g.up,R⟩
theorem q6g {w:World} {a:Option Addr} {n cap i:Nat} {xs:List Int} {x:Int} (h:Sq fN w (.slice a n cap) xs) (hi:xs[i]? = some x) :
  ∃ g off,a=some ⟨g,off,none⟩/\w.cell? ⟨g,off+i,none⟩=some (.int .i64 x):=by
 obtain ⟨-,g,off,rfl,hc⟩:=Sq.cell q1s h hi
 exact ⟨g,off,rfl,by simpa using hc 0 _ rfl⟩
def PtO (l:List Int) (L:List Int) (up:Int->Int) (W:World) (iv kv:Value) (wr:World):Prop:=∃ (i:Nat) (k:Int),iv = .int .i64 i/\kv = .int .i64 k/\i<=L.length/\(∀ x,L[i]? = some x->k=qq l x)/\(i=L.length->k=64)/\Fr [] W wr
def PtI (lo hi:Int) (W:World) (kv:Value) (wr:World):Prop:=∃ k,kv = .int .i64 k/\lo<=k/\k<=hi/\Fr [] W wr
theorem q8e (c:Cf) (rs:List (List O)) (ps ds:List Int) (ov pv dv:Value) (ss:List Sv) (R:List Nat) (w:World)
  (hS:Ko w (.agg #[.int .i64 c.t,.int .i64 c.c,.int .i64 c.wd,.int .i64 c.v,ov,pv,dv]) c rs ps ds ov pv dv ss R) :
  Calls Tryz.prog 4 #[.agg #[.int .i64 c.t,.int .i64 c.c,.int .i64 c.wd,.int .i64 c.v,ov,pv,dv]] w fun e w'=>e = .returned (.bool true)/\Fr [] w w':=by
 have HS:=q9 hS
 have F0:=(Fr.refl [] w).alloc (.cells #[.int .i64 c.t,.int .i64 c.c,.int .i64 c.wd,.int .i64 c.v,ov,pv,dv] 27)
 have o1:=Ob.new w 27 #[.int .i64 c.t,.int .i64 c.c,.int .i64 c.wd,.int .i64 c.v,ov,pv,dv]
 clear hS
 go_enter Tryz.func4,Tryz.ntmps4
 go_wp2_with fail
 generalize World.alloc w _=w0 at *
 generalize hb1:w.heap.size=b1 at *
 refine (Wm w0).mono ?_;rintro e w1 ⟨rfl,F1⟩
 have G:=F0.trans F1
 replace o1:=o1.up F1
 clear F0 F1
 have HX:=q9 (qc hb1 o1.lt)
 clear hb1
 have d0:=Ob.cell (i:=0) o1 rfl
 have d1:=Ob.cell (i:=1) o1 rfl
 have d2:=Ob.cell (i:=2) o1 rfl
 have d3:=Ob.cell (i:=3) o1 rfl
 have d4:=Ob.cell (i:=4) o1 rfl
 have d5:=Ob.cell (i:=5) o1 rfl
 have d6:=Ob.cell (i:=6) o1 rfl
 go_wp2_with fail
 refine (q2w c.t c.c c.wd c.v rs ps ds _ 400 _ (HS.out.scr.up G)).mono ?_;rintro e w2 ⟨rfl,F2⟩
 replace G:=G.trans F2
 replace o1:=o1.up F2
 clear d0 d1 d2 d3 d4 d5 d6 F2
 have d0:=Ob.cell (i:=0) o1 rfl
 have d1:=Ob.cell (i:=1) o1 rfl
 have d2:=Ob.cell (i:=2) o1 rfl
 have d3:=Ob.cell (i:=3) o1 rfl
 have d4:=Ob.cell (i:=4) o1 rfl
 have d5:=Ob.cell (i:=5) o1 rfl
 have d6:=Ob.cell (i:=6) o1 rfl
 cases hw:Jl c.t c.c c.wd c.v rs ps ds 400 with
 | true =>
  clear hw
  go_wp2_with fail
  go_ret
  exact ⟨rfl,G⟩
 | false =>
  have HW:=q9 (Jh hw)
  clear hw
  have hb:=o1.lt
  have F3:=G.alloc (.cells #[.int .i64 c.t,.int .i64 c.c,.int .i64 c.wd,.int .i64 c.v] 23)
  have oc:=Ob.new w2 23 #[.int .i64 c.t,.int .i64 c.c,.int .i64 c.wd,.int .i64 c.v]
  have o2:=o1.alloc (.cells #[.int .i64 c.t,.int .i64 c.c,.int .i64 c.wd,.int .i64 c.v] 23)
  go_wp2_with fail
  generalize World.alloc w2 _=w3 at *
  generalize hbc:w2.heap.size=bc at *
  clear d0 d1 d2 d3 d4 d5 d6 o1
  refine (q35 c rs ps ds ov pv dv ss R _ _ (HS.out.up F3) HW.out.2.2.2.2.2 (by have:=HW.out.1;omega)).mono ?_;rintro e w4 ⟨pr,qr,rfl,hpr,hqr,Hr,F4⟩
  have hlen:=q2a (q24 HW.out.2.2.2.2.2).1 rs ds ps
  have HK:=q9 (q24 HW.out.2.2.2.2.2).1
  obtain ⟨n,hn⟩:=Int.eq_ofNat_of_zero_le (show 0<=c.c by have:=HK.out.c2;have:=HK.out.t1;omega)
  have HN:=q9 hn
  obtain ⟨L,up,hrow⟩:=q3l ds ps HW.out.2.2.2.2.2 (by have:=HW.out.1;omega) hn
  have HROW:=q9 hrow
  clear hrow
  generalize (q2m c rs ds ps).a=s at *
  have F5:=F3.trans F4
  have oc2:=oc.up F4
  have hlen2:=q9 hlen
  clear F3 F4 oc hpr hqr o2 hn hlen
  go_wp2_with fail
  refine (q09 pr qr s _ Hr).mono ?_;rintro e w5 ⟨pa,qa,rfl,hpa,hqa,Ha,F6⟩
  have F7:=F5.trans F6
  have oc3:=oc2.up F6
  clear F5 F6 oc2 Hr hpa hqa
  obtain ⟨y0,y1,y2,y3⟩:=Pl.xc oc3
  have hn:=HN.out
  have hlen:=hlen2.out
  have HQ:=q9 (show 1<=n/\n<=16/\n<=s.l.length/\s.l.length<=20000 from by have:=HK.out.c2;have:=HK.out.t1;have:=HK.out.c16;have:=HK.out.top;have:=HK.out.w2;omega)
  have HT:=q9 (show 1<=c.t/\c.t<=8 from ⟨HK.out.t1,HK.out.t8⟩)
  rw [hn] at y1 oc3
  clear hlen hn
  go_wp2_with fail
  refine (q0z c.t c.wd c.v n pa qa (Q5 s.l) _ HT.out.1 HT.out.2 HQ.out.1 HQ.out.2.1 HQ.out.2.2.1 HQ.out.2.2.2 Ha).mono ?_;rintro e w6 ⟨⟨u,rfl,hu⟩,F8⟩
  have F9:=F7.trans F8
  have HA:=q9 (Ha.kept F8)
  have oc4:=oc3.up F8
  rw [show (Q5 s.l).l=s.l from rfl,HROW.out.all] at hu
  have hs:=q9 (Sq.own hu)
  have hll:L.length<=20000:=by
   have:=(S5 (qq s.l) s.l.length n c.t).le
   rw [HROW.out.all] at this
   have:=HQ.out;omega
  obtain ⟨au,cu,rfl,-,-⟩:=xz hu
  have HF:=q9 F9
  have HOC:=q9 oc4
  clear F7 F8 F9 oc3 oc4 hu Ha y0 y1 y2 y3
  go_wp2_with fail
  go_loopw [6,7] (fun kv iv wr=>PtO s.l L up w6 iv kv wr) (fun _ iv _=>L.length - (intOf iv).toNat)
  case atStart =>
   refine ⟨0,0,rfl,rfl,Nat.zero_le _,fun x hx=>(HROW.out.first x hx).symm,fun e=>?_,Fr.refl _ _⟩
   exact absurd (List.eq_nil_of_length_eq_zero e.symm) HROW.out.ne
  case round =>
   obtain ⟨i,k,rfl,rfl,hi,h1,h2,F⟩:=hrel
   by_cases hlt:i<L.length
   ·obtain ⟨x,hx⟩:∃ x,L[i]? = some x:=⟨L[i],List.getElem?_eq_getElem hlt⟩
    have hpk:=h1 x hx
    subst hpk
    have hxm:=List.mem_of_getElem? hx
    have HXM:=q9 hxm
    obtain ⟨hxa,hxb,hxc⟩:=HROW.out.mn x hxm
    have hnx:=HROW.out.next i x hx
    obtain ⟨gu,ou,rfl,hcx⟩:=q6g hs.out hx
    have HIL:=q9 (show i+1<=L.length by omega)
    have hcx2:=F.cell hcx (by simp)
    by_cases hl2:i+1<L.length
    ·obtain ⟨y,hy⟩:∃ y,L[i+1]? = some y:=⟨L[i+1],List.getElem?_eq_getElem hl2⟩
     have hyu:=hnx.1 y hy
     have hyp:=HROW.out.pos y (List.mem_of_getElem? hy)
     obtain ⟨g2,o2,hg2,hcy⟩:=q6g hs.out hy
     simp only [Option.some.injEq,Addr.mk.injEq] at hg2
     obtain ⟨rfl,rfl,-⟩:=hg2
     have hcy2:=F.cell hcy (by simp)
     have hAr:=HA.out.kept F
     have HY:=q9 (qc hy (qc hyu hl2))
     have HFX:=q9 F
     have hb3:=HQ.out
     clear hcy hy hyu h1 h2 hnx hx hxm hi
     go_wp2_with fail
     refine (je _ pa qa (Q5 s.l) _ hAr).mono ?_;rintro e _ ⟨rfl,rfl⟩
     rw [show qq (Q5 s.l).l y=up x from HY.out.2.1]
     clear hcy2 hAr hyp hlt hl2
     generalize hux:up x=ux at *
     generalize hmx:qq s.l x=mx at *
     have HUX:=q9 (qc hxa (qc hxb hxc))
     have HUX2:=q9 hux
     have HPK:=q9 hmx
     have HCX:=q9 hcx
     clear hxa hxb hxc hux hmx hcx2 hcx
     go_wp2_with fail
     go_loopw [6] (fun kv wr=>PtI mx ux w6 kv wr) (fun kv _=>(64 - intOf kv).toNat)
     case atStart=>exact ⟨mx,rfl,Int.le_refl _,by have:=HUX.out.2.1;omega,HFX.out⟩
     case round =>
      obtain ⟨k,rfl,k1,k2,F5⟩:=hrel
      have hx3:=HUX.out
      by_cases hku:k<ux
      ·have q1:decide (k<ux)=true:=by simpa using hku
       have q2:decide (k<=63)=true:=by simp;omega
       have HKU:=q9 (qc hku (qc k1 k2))
       obtain ⟨z0,z1,z2,z3⟩:=Pl.xc (HOC.out.up F5)
       have j0:=qb z0
       have j1:=qb z1
       have j2:=qb z2
       have j3:=qb z3
       have jx:=qb (F5.cell HCX.out (by simp))
       have hAr:=HA.out.kept F5
       have HOF:=q9 (show ∀ wz,Fr [] _ wz->Calls Tryz.prog 11 #[.agg #[.int .i64 c.t,.int .i64 n,.int .i64 c.wd,.int .i64 c.v],.pointer (some ⟨pa,0,none⟩),.int .i64 k] wz fun e w'=>e = .returned (.int .i64 x)/\Fr [] wz w' from fun wz Fz=>by
        have:=Xv c.t c.wd c.v k n pa qa (Q5 s.l) wz HT.out.1 HT.out.2 HQ.out.1 HQ.out.2.1 HQ.out.2.2.1 HQ.out.2.2.2 (hAr.kept Fz)
        rw [show (Q5 s.l).l=s.l from rfl,HROW.out.of_ x HXM.out k (by rw [HPK.out];exact k1) (by rw [HUX2.out];exact hku)] at this
        exact this)
       have HF5:=q9 F5
       clear hku k1 k2 hx3 z0 z1 z2 z3 hAr F5
       go_wp2_with fail
       refine wiq ?_
       repeat (go_big_quiet_step ((go_at_call 11;exact Calls.in_ (HOF.out _ (In.fr _)))))
       refine wpQuiet_nil ?_
       intro w7 F7
       have HF7:=q9 (HF5.out.trans F7)
       clear HOF j0 j1 j2 j3 jx F7
       have hb1:=HKU.out
       have hb2:=HUX.out
       go_wp2_with fail
       go_roundw
       case rel =>
        refine ⟨k+1,rfl,?_,?_,HF7.out⟩
        ·have:=HKU.out.2.1;clear hb1 hb2;omega
        ·have:=HKU.out.1;clear hb1 hb2;omega
       case measure =>
        show (64 - (k+1)).toNat<(64 - k).toNat
        have:=HKU.out;have:=HUX.out;clear hb1 hb2;omega
      ·have q1:decide (k<ux)=false:=by simpa using hku
       have HKE:=q9 (show k=ux by omega)
       have HF5:=q9 F5
       clear hku k1 k2 hx3 F5
       go_wp2_with fail
       go_roundw
       case rel=>exact ⟨i+1,k,by go_num,rfl,HIL.out,fun z hz=>by rw [HY.out.1] at hz;cases hz;rw [HKE.out];exact HY.out.2.1.symm,fun e=>absurd e (by have:=HY.out.2.2;omega),HF5.out⟩
       case measure=>exact meas rfl (by have:=HIL.out;omega)
    ·have hup:=hnx.2 (List.getElem?_eq_none (by omega))
     have HY:=q9 (qc hl2 hup)
     have HFX:=q9 F
     clear h1 h2 hnx hx hxm
     have hux:=hup
     rw [hup] at hxb hxc
     clear hup
     generalize hmx:qq s.l x=mx at *
     have HUX:=q9 (qc hxa (qc hxb hxc))
     have HUX2:=q9 hux
     have HPK:=q9 hmx
     have HCX:=q9 hcx
     clear hxa hxb hxc hux hmx hcx2 hcx
     go_wp2_with fail
     go_loopw [6] (fun kv wr=>PtI mx 64 w6 kv wr) (fun kv _=>(64 - intOf kv).toNat)
     case atStart=>exact ⟨mx,rfl,Int.le_refl _,by have:=HUX.out.2.1;omega,HFX.out⟩
     case round =>
      obtain ⟨k,rfl,k1,k2,F5⟩:=hrel
      have hx3:=HUX.out
      by_cases hku:k<64
      ·have q1:decide (k<64)=true:=by simpa using hku
       have q2:decide (k<=63)=true:=by simp;omega
       have HKU:=q9 (qc hku (qc k1 k2))
       obtain ⟨z0,z1,z2,z3⟩:=Pl.xc (HOC.out.up F5)
       have j0:=qb z0
       have j1:=qb z1
       have j2:=qb z2
       have j3:=qb z3
       have jx:=qb (F5.cell HCX.out (by simp))
       have hAr:=HA.out.kept F5
       have HOF:=q9 (show ∀ wz,Fr [] _ wz->Calls Tryz.prog 11 #[.agg #[.int .i64 c.t,.int .i64 n,.int .i64 c.wd,.int .i64 c.v],.pointer (some ⟨pa,0,none⟩),.int .i64 k] wz fun e w'=>e = .returned (.int .i64 x)/\Fr [] wz w' from fun wz Fz=>by
        have:=Xv c.t c.wd c.v k n pa qa (Q5 s.l) wz HT.out.1 HT.out.2 HQ.out.1 HQ.out.2.1 HQ.out.2.2.1 HQ.out.2.2.2 (hAr.kept Fz)
        rw [show (Q5 s.l).l=s.l from rfl,HROW.out.of_ x HXM.out k (by rw [HPK.out];exact k1) (by rw [HUX2.out];exact hku)] at this
        exact this)
       have HF5:=q9 F5
       clear hku k1 k2 hx3 z0 z1 z2 z3 hAr F5
       go_wp2_with fail
       refine wiq ?_
       repeat (go_big_quiet_step ((go_at_call 11;exact Calls.in_ (HOF.out _ (In.fr _)))))
       refine wpQuiet_nil ?_
       intro w7 F7
       have HF7:=q9 (HF5.out.trans F7)
       clear HOF j0 j1 j2 j3 jx F7
       have hb1:=HKU.out
       have hb2:=HUX.out
       go_wp2_with fail
       go_roundw
       case rel =>
        refine ⟨k+1,rfl,?_,?_,HF7.out⟩
        ·have:=HKU.out.2.1;clear hb1 hb2;omega
        ·have:=HKU.out.1;clear hb1 hb2;omega
       case measure =>
        show (64 - (k+1)).toNat<(64 - k).toNat
        have:=HKU.out;have:=HUX.out;clear hb1 hb2;omega
      ·have q1:decide (k<64)=false:=by simpa using hku
       have HKE:=q9 (show k=64 by omega)
       have HF5:=q9 F5
       clear hku k1 k2 hx3 F5
       go_wp2_with fail
       go_roundw
       case rel=>exact ⟨i+1,k,by go_num,rfl,HIL.out,fun z hz=>by have:=(List.getElem?_eq_some_iff.1 hz).1;exact absurd this HY.out.1,fun _=>HKE.out,HF5.out⟩
       case measure=>exact meas rfl (by have:=HIL.out;omega)
   ·have hk:=h2 (by omega)
    subst hk
    have HF5:=q9 F
    clear F h1 h2
    go_wp2_with fail
    go_ret
    exact ⟨rfl,HF.out.trans HF5.out⟩
theorem q86 {w:World} {k:IntKind} {a:Option Addr} {n cap:Nat} {zs:List Int} (h:Law.Ints w k (.slice a n cap) zs) {i:Nat} (hi:i<=zs.length):Law.Ints w k (.slice a i cap) (zs.take i):=by
 obtain ⟨a',c',e,h1,h2,h3⟩:=h
 simp only [Value.slice.injEq] at e
 obtain ⟨rfl,rfl,rfl⟩:=e
 have hl:(zs.take i).length=i:=by simp [Nat.min_eq_left hi]
 refine ⟨a,cap,by rw [hl],by rw [hl];omega,fun m hm=>h2 m (List.take_subset _ _ hm),?_⟩
 by_cases h0:i=0
 ·left;rw [hl];exact h0
 ·right
  rcases h3 with h3 | ⟨b,off,h4,h5,h6⟩
  ·omega
  ·refine ⟨b,off,h4,h5,fun j hj=>?_⟩
   rw [hl] at hj
   rw [h6 j (by omega)]
   congr 2
   rw [List.getD_eq_getElem?_getD,List.getD_eq_getElem?_getD,List.getElem?_take,qf hj]
theorem q4o {t c wd v:Int} {rs:List (List O)} {ps:List Int} (h:Qg t c wd v rs ps=0) (i:Nat):Qg t c wd v rs (ps.take i)=0:=by
 unfold Qg at h ⊢
 split at h
 ·rename_i h0
  rw [qf h0]
  split at h
  ·cases h
  ·rename_i h1
   rw [qd]
   ·exact h
   ·unfold large at h1 ⊢
    simp only [Bool.or_eq_true,decide_eq_true_eq,not_or] at h1 ⊢
    exact ⟨h1.1,by have:=h1.2.1;rw [List.length_take];omega,h1.2.2⟩
 ·rename_i h0
  exact absurd h h0
def HoAt (c:Cf) (ov dv:Value) (N b:Nat) (W:World) (iv:Value) (wr:World):Prop:=∃ (i:Nat) (sl:Value),iv = .int .i64 i/\i<=N+7/\Ob wr b 27 #[.int .i64 c.t,.int .i64 c.c,.int .i64 c.wd,.int .i64 c.v,ov,sl,dv]/\Fr [] W wr
theorem q9u (c:Cf) (rs:List (List O)) (ps ds:List Int) (ov pv dv:Value) (ss:List Sv) (R:List Nat) (w:World)
  (hS:Ko w (.agg #[.int .i64 c.t,.int .i64 c.c,.int .i64 c.wd,.int .i64 c.v,ov,pv,dv]) c rs ps ds ov pv dv ss R) :
  Calls Tryz.prog 3 #[.agg #[.int .i64 c.t,.int .i64 c.c,.int .i64 c.wd,.int .i64 c.v,ov,pv,dv]] w fun e w'=>e = .returned (.bool true)/\Fr [] w w':=by
 have HS:=q9 hS
 obtain ⟨ap,cp,hpe,hpc,hpm,-⟩:=id hS.pk
 subst hpe
 have F0:=(Fr.refl [] w).alloc (.cells #[.int .i64 c.t,.int .i64 c.c,.int .i64 c.wd,.int .i64 c.v,ov,.slice ap ps.length cp,dv] 27)
 have o1:=Ob.new w 27 #[.int .i64 c.t,.int .i64 c.c,.int .i64 c.wd,.int .i64 c.v,ov,.slice ap ps.length cp,dv]
 clear hS
 go_enter Tryz.func3,Tryz.ntmps3
 go_wp2_with fail
 generalize World.alloc w _=w0 at *
 generalize hb1:w.heap.size=b1 at *
 refine (Wm w0).mono ?_;rintro e w1 ⟨rfl,F1⟩
 have G:=F0.trans F1
 replace o1:=o1.up F1
 clear F0 F1
 have HX:=q9 (qc hb1 o1.lt)
 clear hb1
 have d0:=Ob.cell (i:=0) o1 rfl
 have d1:=Ob.cell (i:=1) o1 rfl
 have d2:=Ob.cell (i:=2) o1 rfl
 have d3:=Ob.cell (i:=3) o1 rfl
 have d4:=Ob.cell (i:=4) o1 rfl
 have d5:=Ob.cell (i:=5) o1 rfl
 have d6:=Ob.cell (i:=6) o1 rfl
 go_wp2_with fail
 refine (q2w c.t c.c c.wd c.v rs ps ds _ 150 _ (HS.out.scr.up G)).mono ?_;rintro e w2 ⟨rfl,F2⟩
 replace G:=G.trans F2
 replace o1:=o1.up F2
 clear d0 d1 d2 d3 d4 d5 d6 F2
 have d5:=Ob.cell (i:=5) o1 rfl
 cases hw:Jl c.t c.c c.wd c.v rs ps ds 150 with
 | true =>
  clear hw
  go_wp2_with fail
  go_ret
  exact ⟨rfl,G⟩
 | false =>
  have HW:=q9 (Jh hw)
  clear hw
  have HK:=q9 (q24 HW.out.2.2.2.2.2).1
  obtain ⟨n,hn⟩:=Int.eq_ofNat_of_zero_le (show 0<=c.c by have:=HK.out.c2;have:=HK.out.t1;omega)
  have HN:=q9 hn
  have HT:=q9 (show 1<=c.t/\c.t<=8 from ⟨HK.out.t1,HK.out.t8⟩)
  have HG:=q9 G
  have HO:=q9 o1
  clear hn G o1
  go_wp2_with fail
  clear d5
  go_loopw [4] (fun iv wr=>HoAt c ov dv ps.length b1 w iv wr) (fun iv _=>ps.length+7 - (intOf iv).toNat)
  case atStart=>exact ⟨0,_,rfl,Nat.zero_le _,HO.out,HG.out⟩
  case round =>
   obtain ⟨i,sl,rfl,hi,o2,F⟩:=hrel
   have hps:ps.length<=150:=by have:=HW.out.1;omega
   by_cases hlt:i<=ps.length
   ·have q1:decide ((i:Int)<=(ps.length:Int))=true:=by simp;omega
    have hic:i<=cp:=by omega
    have d0:=Ob.cell (i:=0) o2 rfl
    have d1:=Ob.cell (i:=1) o2 rfl
    have d2:=Ob.cell (i:=2) o2 rfl
    have d3:=Ob.cell (i:=3) o2 rfl
    have d4:=Ob.cell (i:=4) o2 rfl
    have d5:=Ob.cell (i:=5) o2 rfl
    have d6:=Ob.cell (i:=6) o2 rfl
    have z5:=o2.frozen
    have o3:=Ob.set o2 (i:=5) (.slice ap i cp)
    replace o3:Ob (wr.setCell ⟨b1,5,none⟩ (.slice ap i cp)) b1 27 #[.int .i64 c.t,.int .i64 c.c,.int .i64 c.wd,.int .i64 c.v,ov,.slice ap i cp,dv]:=o3
    have G3:Fr [] w (wr.setCell ⟨b1,5,none⟩ (.slice ap i cp)):=F.own (Fr.setCell (S:=[b1]) (b:=b1) (i:=5) _ (by simp)) (by simp;have:=HX.out.1;omega)
    have HI:=q9 (qc hlt (qc hi hps))
    have HIN:=q9 (show Ko _ (.agg #[.int .i64 c.t,.int .i64 c.c,.int .i64 c.wd,.int .i64 c.v,ov,.slice ap i cp,dv]) c rs (ps.take i) ds ov (.slice ap i cp) dv ss R from by
     have h:=HS.out.up G3
     obtain ⟨vo,vp,vd,e,k1,k2,k3⟩:=h.scr
     simp only [Value.agg.injEq,Array.mk.injEq,List.cons.injEq] at e
     obtain ⟨-,-,-,-,rfl,rfl,rfl,-⟩:=e
     exact ⟨rfl,⟨_,_,_,rfl,k1,q86 k2 hlt,k3⟩,h.rows,h.dr,h.drR,Sq.take yd h.pk i hlt,h.lt⟩)
    have HG3:=q9 G3
    clear o2 F hlt hi hps G3
    have hw64:(0:Int)<=i:=by omega
    go_wp2_with fail
    clear d0 d1 d2 d3 d4 d5 d6 z5
    generalize World.setCell wr ⟨b1,5,none⟩ (.slice ap i cp)=w3 at *
    have hsc:Qg c.t c.c c.wd c.v rs (ps.take i)=0:=q4o HW.out.2.2.2.2.2 i
    have hpl:(ps.take i).length<=8000:=by rw [List.length_take];have:=HI.out;omega
    obtain ⟨L,up,hrow⟩:=q3l ds (ps.take i) hsc hpl HN.out
    have HROW:=q9 hrow
    have hlen:=q2a HK.out rs ds (ps.take i)
    refine (q35 c rs (ps.take i) ds ov _ dv ss R _ _ HIN.out hsc hpl).mono ?_;rintro e w4 ⟨pr,qr,rfl,hpr,hqr,Hr,F4⟩
    generalize (q2m c rs ds (ps.take i)).a=s at *
    have HQ:=q9 (show 1<=n/\n<=16/\n<=s.l.length/\s.l.length<=20000 from by have:=HK.out.c2;have:=HK.out.t1;have:=HK.out.c16;have:=HK.out.top;have:=HK.out.w2;have:=HN.out;omega)
    have HG4:=q9 (HG3.out.trans F4)
    have o4:=Ob.up o3 F4
    clear hrow hsc hpl hlen F4 o3 hpr hqr HIN
    go_wp2_with fail
    refine (q09 pr qr s _ Hr).mono ?_;rintro e w5 ⟨pa,qa,rfl,hpa,hqa,Ha,F6⟩
    have HG5:=q9 (HG4.out.trans F6)
    have o5:=Ob.up o4 F6
    clear o4 F6 Hr hpa hqa
    have d0:=Ob.cell (i:=0) o5 rfl
    have d1:=Ob.cell (i:=1) o5 rfl
    have d2:=Ob.cell (i:=2) o5 rfl
    have d3:=Ob.cell (i:=3) o5 rfl
    rw [show c.c=(n:Int) from HN.out] at d1
    go_wp2_with fail
    refine (q0z c.t c.wd c.v n pa qa (Q5 s.l) _ HT.out.1 HT.out.2 HQ.out.1 HQ.out.2.1 HQ.out.2.2.1 HQ.out.2.2.2 Ha).mono ?_;rintro e w6 ⟨⟨u,rfl,hu⟩,F8⟩
    have HG6:=q9 (HG5.out.trans F8)
    have o6:=Ob.up o5 F8
    have HA:=q9 (Ha.kept F8)
    rw [show (Q5 s.l).l=s.l from rfl,HROW.out.all] at hu
    have hs:=q9 (Sq.own hu)
    obtain ⟨au,cu,rfl,-,-⟩:=xz hu
    obtain ⟨x,hx⟩:∃ x,L[0]? = some x:=by
     cases e:L with
     | nil=>exact absurd e HROW.out.ne
     | cons x r=>exact ⟨x,rfl⟩
    have hll:1<=L.length:=(List.getElem?_eq_some_iff.1 hx).1
    obtain ⟨g0,f0,rfl,hc0⟩:=q6g hs.out hx
    rw [Nat.add_zero] at hc0
    have hxm:=List.mem_of_getElem? hx
    have h0:=HROW.out.first x hx
    have hxr:=HROW.out.mn x hxm
    have hof0:=HROW.out.of_ x hxm 0 (by omega) (by omega)
    have hin:=HROW.out.inn 63 (by omega) (by omega)
    have h63:ofL (zn (qq s.l) s.l.length n c.t) 63≠0:=by have:=HROW.out.pos _ hin;omega
    have HO6:=q9 o6
    clear o5 d0 d1 d2 d3 Ha F8 hu
    have d0:=qb (Ob.cell (i:=0) o6 rfl)
    have d1:=qb (Ob.cell (i:=1) o6 rfl)
    have d2:=qb (Ob.cell (i:=2) o6 rfl)
    have d3:=qb (Ob.cell (i:=3) o6 rfl)
    have dx:=qb hc0
    rw [show c.c=(n:Int) from HN.out] at d1
    have q1:(x != x)=false:=by simp
    have q2:decide ((L.length:Int)=0)=false:=decide_eq_false (by omega)
    have q3:((L.length:Int) == 0)=false:=by rw [beq_eq_false_iff_ne];omega
    have H63:=q9 h63
    generalize hz:ofL (zn (qq s.l) s.l.length n c.t) 63=z at *
    have q4:(z == 0)=false:=by simpa using h63
    have HIS:=q9 (show ∀ wz,Fr [] w6 wz->Calls Tryz.prog 10 #[.agg #[.int .i64 c.t,.int .i64 n,.int .i64 c.wd,.int .i64 c.v],.pointer (some ⟨pa,0,none⟩)] wz fun e w'=>e = .returned (.bool true)/\Fr [] wz w' from fun wz Fz=>by
     have:=Rz c.t c.wd c.v n pa qa (Q5 s.l) wz HT.out.1 HT.out.2 HQ.out.1 HQ.out.2.1 HQ.out.2.2.1 HQ.out.2.2.2 (HA.out.kept Fz)
     rw [show (Q5 s.l).l=s.l from rfl,HROW.out.is] at this
     exact this)
    have HOF:=q9 (show ∀ wz,Fr [] w6 wz->Calls Tryz.prog 11 #[.agg #[.int .i64 c.t,.int .i64 n,.int .i64 c.wd,.int .i64 c.v],.pointer (some ⟨pa,0,none⟩),.int .i64 0] wz fun e w'=>e = .returned (.int .i64 x)/\Fr [] wz w' from fun wz Fz=>by
     have:=Xv c.t c.wd c.v 0 n pa qa (Q5 s.l) wz HT.out.1 HT.out.2 HQ.out.1 HQ.out.2.1 HQ.out.2.2.1 HQ.out.2.2.2 (HA.out.kept Fz)
     rw [show (Q5 s.l).l=s.l from rfl,hof0] at this
     exact this)
    have HOZ:=q9 (show ∀ wz,Fr [] w6 wz->Calls Tryz.prog 11 #[.agg #[.int .i64 c.t,.int .i64 n,.int .i64 c.wd,.int .i64 c.v],.pointer (some ⟨pa,0,none⟩),.int .i64 63] wz fun e w'=>e = .returned (.int .i64 z)/\Fr [] wz w' from fun wz Fz=>by
     have:=Xv c.t c.wd c.v 63 n pa qa (Q5 s.l) wz HT.out.1 HT.out.2 HQ.out.1 HQ.out.2.1 HQ.out.2.2.1 HQ.out.2.2.2 (HA.out.kept Fz)
     rw [show (Q5 s.l).l=s.l from rfl,hz] at this
     exact this)
    clear o6 hof0 hin h63 hz hxr h0 hxm hx hc0
    go_wp2_with fail
    refine wiq ?_
    repeat (go_big_quiet_step ((first | (go_at_call 10;exact Calls.in_ (HIS.out _ (In.fr _))) | (go_at_call_of 11 (Value.int IntKind.i64 0);exact Calls.in_ (HOF.out _ (In.fr _))) | (go_at_call_of 11 (Value.int IntKind.i64 63);exact Calls.in_ (HOZ.out _ (In.fr _))))))
    refine wpQuiet_nil ?_
    intro w7 F7
    have HO7:=q9 (HO6.out.up F7)
    have HG7:=q9 (HG6.out.trans F7)
    clear HIS HOF HOZ d0 d1 d2 d3 dx F7 q1 q2 q3 q4 hll
    have hi7:=HI.out
    go_wp2_with fail
    go_roundw
    case rel=>exact ⟨i+7,_,by go_num,by omega,HO7.out,HG7.out⟩
    case measure =>
     show ps.length+7 - ((i:Int)+7).toNat<ps.length+7 - ((i:Int)).toNat
     omega
    all_goals (exfalso;have:=HI.out.1;omega)
   ·have q1:decide ((i:Int)<=(ps.length:Int))=false:=by simp;omega
    have q2:decide (i<=ps.length)=false:=decide_eq_false hlt
    clear hlt
    have HF:=q9 F
    clear F o2
    go_wp2_with fail
    go_ret
    exact ⟨rfl,HF.out⟩
theorem q4e {H:Type} {enc:TypeId×Value->H} {r:Reach} {b0:Nat} {d:DataW H} {p:List MemPlace} {s:Value} (W:World) (hs:Value.okWide Tryz.prog W r b0 27 s) (h:DataW.Trod enc Tryz.prog W 0 (fun _=>true) true 27 s d p) :
  Calls Tryz.prog 4 #[s] W fun e w'=>e = .returned (.bool true)/\Fr [] W w':=by
 obtain ⟨t,c,wd,vv,vo,vp,vd,rs,ss,ps,ds,rfl,k1,k2,k3,k4,k5⟩:=Op10.q2t hs h
 exact q8e ⟨t,c,wd,vv⟩ rs ps ds vo vp vd ss (List.range W.heap.size) W (qbd (c:=⟨t,c,wd,vv⟩) k1 k2 k3 k4 k5)
theorem q6z {H:Type} {enc:TypeId×Value->H} {r:Reach} {b0:Nat} {d:DataW H} {p:List MemPlace} {s:Value} (W:World) (hs:Value.okWide Tryz.prog W r b0 27 s) (h:DataW.Trod enc Tryz.prog W 0 (fun _=>true) true 27 s d p) :
  Calls Tryz.prog 3 #[s] W fun e w'=>e = .returned (.bool true)/\Fr [] W w':=by
 obtain ⟨t,c,wd,vv,vo,vp,vd,rs,ss,ps,ds,rfl,k1,k2,k3,k4,k5⟩:=Op10.q2t hs h
 exact q9u ⟨t,c,wd,vv⟩ rs ps ds vo vp vd ss (List.range W.heap.size) W (qbd (c:=⟨t,c,wd,vv⟩) k1 k2 k3 k4 k5)
end Go.Proofs.YtppajakfaomkaaaGreat.Ch
namespace Go.Proofs.YtppajakfaomkaaaGreat.chainHolds
open Go.ChangeShapes Go.WideShapes Go.ChangeAt Go.RowKit Go.Deep
theorem own:ownKnob Tryz.prog.godebug=none:=by kernel_rfl
theorem laidOut:laidOutB Tryz.prog=true:=by kernel_rfl
theorem readable:Tryz.f3.params.toList.all (fun t=>Tryz.prog.readableRec t && decide (t<Tryz.prog.types.size))=true:=by kernel_rfl
theorem contract (H:Type) (enc:TypeId×Value->H) (W:World) (base:Nat) (args:Array Value) (ds gs:List (DataW H)) (before:List MemPlace)
  (hval:∀ (j:Nat) t v,Tryz.f3.params[j]? = some t->args[j]? = some v->Value.okWide Tryz.prog W .any base t v)
  (hW:DataW.Whole enc Tryz.prog Tryz.f3.params.toList Rows.chainHoldsSpec.vars false W args.toList ds gs before) :
  Calls Tryz.prog 3 args W fun e W'=>∃ v,e = .returned v/\Rows.chainHoldsSpec.post enc Tryz.prog Tryz.f3 false true false false W args v W':=by
 have hW':=hW
 obtain ⟨p,q,hA0,hV,rfl,hfz,hnd⟩:=hW
 have hA:DataW.TrodAll enc Tryz.prog W 0 (fun _=>true) true Tryz.f3.params.toList args.toList ds p:=hA0
 rw [Tryz.params3] at hA hval
 obtain ⟨v0,vs0,d0,ds0,p0,q0,hargs,rfl,rfl,h0,r0⟩:=trodAll_cons hA
 obtain ⟨rfl,rfl,rfl⟩:=trodAll_nil r0
 obtain rfl:args = #[v0]:=by cases args;simp_all
 obtain ⟨rfl,rfl⟩:=trodVars_none hV
 have hv0:=hval 0 27 v0 rfl rfl
 clear hA0
 refine (Ch.q6z W hv0 h0).mono fun e W' ⟨he,hd⟩=>?_
 subst he
 exact ⟨_,rfl,Law.q2v (tb:=4) laidOut readable Tryz.underlying4 (by kernel_rfl) rfl rfl hW' hd.below⟩
theorem lifted (os:Os) (started:os.Started) (H:Type) (enc:TypeId×Value->H) :
  ReturnsInHanded {} Tryz.checked os 3 .any (Rows.chainHoldsSpec.pre6 enc Tryz.prog Tryz.f3 Rows.chainHoldsRow.domain false) (Rows.chainHoldsSpec.post enc Tryz.prog Tryz.f3 false true false false):=by
 refine returnsInHanded_of_change (C:=Tryz.checked) own started (by kernel_rfl) Tryz.func3
  (ChangeSpec.witness6 (enc:=enc) (C:=Tryz.checked) false ⟨#[],#[Value.agg #[.int .i64 0,.int .i64 0,.int .i64 0,.int .i64 0,.slice none 0 0,.slice none 0 0,.slice none 0 0]],[]⟩ 8 (by kernel_rfl) (by kernel_rfl) (by kernel_rfl) (by kernel_rfl)) ?_
 intro W base args ds gs before hval hW _ _
 exact contract H enc W base args ds gs before hval hW
theorem said:Rows.ChainHoldsSaid :=
 OpenClaim.holds_of_wide 3 Tryz.f3 rfl rfl rfl rfl rfl rfl rfl ⟨rfl,rfl,rfl,rfl,rfl⟩ rfl rfl rfl rfl rfl (by kernel_rfl) Tryz.func3 (by kernel_rfl)
  (of_decide_eq_true (by kernel_rfl)) (by unfold Func.isWrapper;first | (rw [qf (by decide +kernel)];kernel_rfl) | (rw [qd (by decide +kernel)];exact ⟨rfl,rfl⟩))
  (fun os started H enc _=>lifted os started H enc)
end Go.Proofs.YtppajakfaomkaaaGreat.chainHolds
namespace Go.Proofs.YtppajakfaomkaaaGreat.chainParts
open Go.ChangeShapes Go.WideShapes Go.ChangeAt Go.RowKit Go.Deep
theorem own:ownKnob Tryz.prog.godebug=none:=by kernel_rfl
theorem laidOut:laidOutB Tryz.prog=true:=by kernel_rfl
theorem readable:Tryz.f4.params.toList.all (fun t=>Tryz.prog.readableRec t && decide (t<Tryz.prog.types.size))=true:=by kernel_rfl
theorem contract (H:Type) (enc:TypeId×Value->H) (W:World) (base:Nat) (args:Array Value) (ds gs:List (DataW H)) (before:List MemPlace)
  (hval:∀ (j:Nat) t v,Tryz.f4.params[j]? = some t->args[j]? = some v->Value.okWide Tryz.prog W .any base t v)
  (hW:DataW.Whole enc Tryz.prog Tryz.f4.params.toList Rows.chainPartsSpec.vars false W args.toList ds gs before) :
  Calls Tryz.prog 4 args W fun e W'=>∃ v,e = .returned v/\Rows.chainPartsSpec.post enc Tryz.prog Tryz.f4 false true false false W args v W':=by
 have hW':=hW
 obtain ⟨p,q,hA0,hV,rfl,hfz,hnd⟩:=hW
 have hA:DataW.TrodAll enc Tryz.prog W 0 (fun _=>true) true Tryz.f4.params.toList args.toList ds p:=hA0
 rw [Tryz.params4] at hA hval
 obtain ⟨v0,vs0,d0,ds0,p0,q0,hargs,rfl,rfl,h0,r0⟩:=trodAll_cons hA
 obtain ⟨rfl,rfl,rfl⟩:=trodAll_nil r0
 obtain rfl:args = #[v0]:=by cases args;simp_all
 obtain ⟨rfl,rfl⟩:=trodVars_none hV
 have hv0:=hval 0 27 v0 rfl rfl
 clear hA0
 refine (Ch.q4e W hv0 h0).mono fun e W' ⟨he,hd⟩=>?_
 subst he
 exact ⟨_,rfl,Law.q2v (tb:=4) laidOut readable Tryz.underlying4 (by kernel_rfl) rfl rfl hW' hd.below⟩
theorem lifted (os:Os) (started:os.Started) (H:Type) (enc:TypeId×Value->H) :
  ReturnsInHanded {} Tryz.checked os 4 .any (Rows.chainPartsSpec.pre6 enc Tryz.prog Tryz.f4 Rows.chainPartsRow.domain false) (Rows.chainPartsSpec.post enc Tryz.prog Tryz.f4 false true false false):=by
 refine returnsInHanded_of_change (C:=Tryz.checked) own started (by kernel_rfl) Tryz.func4
  (ChangeSpec.witness6 (enc:=enc) (C:=Tryz.checked) false ⟨#[],#[Value.agg #[.int .i64 0,.int .i64 0,.int .i64 0,.int .i64 0,.slice none 0 0,.slice none 0 0,.slice none 0 0]],[]⟩ 8 (by kernel_rfl) (by kernel_rfl) (by kernel_rfl) (by kernel_rfl)) ?_
 intro W base args ds gs before hval hW _ _
 exact contract H enc W base args ds gs before hval hW
theorem said:Rows.ChainPartsSaid :=
 OpenClaim.holds_of_wide 4 Tryz.f4 rfl rfl rfl rfl rfl rfl rfl ⟨rfl,rfl,rfl,rfl,rfl⟩ rfl rfl rfl rfl rfl (by kernel_rfl) Tryz.func4 (by kernel_rfl)
  (of_decide_eq_true (by kernel_rfl)) (by unfold Func.isWrapper;first | (rw [qf (by decide +kernel)];kernel_rfl) | (rw [qd (by decide +kernel)];exact ⟨rfl,rfl⟩))
  (fun os started H enc _=>lifted os started H enc)
end Go.Proofs.YtppajakfaomkaaaGreat.chainParts
