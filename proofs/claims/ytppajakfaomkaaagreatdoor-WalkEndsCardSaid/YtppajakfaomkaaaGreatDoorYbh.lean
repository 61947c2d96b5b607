/- Parts. -/
import Derived.Test.YtppajakfaomkaaaGreatDoorYah
import Derived.Test.YtppajakfaomkaaaGreatDoorYav
import Derived.Test.YtppajakfaomkaaaGreatDoorYbe
import Derived.Test.YtppajakfaomkaaaGreatDoorYbg
set_option linter.unusedVariables false
set_option linter.unusedSimpArgs false
set_option maxRecDepth 100000
set_option maxHeartbeats 12800000
namespace Go.Proofs.YtppajakfaomkaaaGreatDoor.Dw
open Go.RowKit Ar Og Ref Mx Vw Wd
theorem qaj (k i o n k' i' o' n':Int) (b b':Bool) (W:World):(binOp .eql 39 (.agg #[.int .i64 k,.int .i64 i,.int .i64 o,.int .i64 n,.bool b]) (.agg #[.int .i64 k',.int .i64 i',.int .i64 o',.int .i64 n',.bool b'])).run Tryz.prog W = .ok (.bool (k == k' && i == i' && o == o' && n == n' && b == b')) W:=by
 have u3:=Tryz.underlying3
 have u4:=Tryz.underlying4
 have a3:(isAgg 3).run Tryz.prog W = .ok false W:=by kernel_rfl
 have a4:(isAgg 4).run Tryz.prog W = .ok false W:=by kernel_rfl
 have hS:Tryz.prog.underlying 39=some (.struct (Tryz.prog.fieldsOf 39)):=by kernel_rfl
 have hp:Tryz.prog.stoodInHeld 39=false:=by kernel_rfl
 rw [run_eql_struct,show (10000:Nat)=9999+1 from rfl,run_equalIn_agg W 9999 39 _ _ hS hp]
 simp only [Program.fieldsOf,Tryz.underlying39]
 go_simp
 cases h1:k == k' <;> cases h2:i == i' <;> cases h3:o == o' <;> cases h4:n == n' <;> cases h5:b == b' <;> simp_all
theorem q7z {c:Cf} {rs:List (List O)} {ps0:List Int} (ds ps:List Int) (h0:Z7 c.t c.c c.wd c.v rs ps0=0) (hp:ps.length<=8000):∃ g,OkG c g (q3f c rs ds ps).a.l:=by
 have hc:=(q6w h0).1
 obtain ⟨g,h,e⟩:=qcq ds hc (q1v ds h0) ps (by omega)
 exact ⟨g,h.ok⟩
def EnAt (c:Cf) (g:Gst) (l:List Int) (W:World) (b p q:Nat) (iv:Value) (wr:World):Prop:=∃ (i:Nat) (x:Wk) (s:St),iv = .int .i64 i/\i+wkM c g x<=141/\x.line≠0/\WkI c g x/\s.l=l/\Rf wr b x/\Ar wr p q s/\Fr [b,p,q] W wr
theorem q8h (c:Cf) (rs:List (List O)) (ps ds:List Int) (ov pv dv:Value) (ss:List Sv) (R:List Nat) (k:Int) (hk:0<=k/\k<=255) (w:World) (t:Fl w)
  (hS:Tg w (.agg #[.int .i64 c.t,.int .i64 c.c,.int .i64 c.wd,.int .i64 c.v,ov,pv,dv]) c rs ps ds ov pv dv ss R) :
  Calls Tryz.prog 8 #[.agg #[.int .i64 c.t,.int .i64 c.c,.int .i64 c.wd,.int .i64 c.v,ov,pv,dv],.int .u8 k] w fun e w'=>e = .returned (.bool true)/\Fr [] w w':=by
 have HS:=q9 hS
 have F0:=(Fr.refl [] w).alloc (.cells #[.int .i64 c.t,.int .i64 c.c,.int .i64 c.wd,.int .i64 c.v,ov,pv,dv] 27)
 have o1:=Ob.new w 27 #[.int .i64 c.t,.int .i64 c.c,.int .i64 c.wd,.int .i64 c.v,ov,pv,dv]
 clear hS
 go_enter Tryz.func8,Tryz.ntmps8
 go_wp2_with fail
 generalize World.alloc w _=w0 at *
 generalize hb1:w.heap.size=b1 at *
 refine (q3m w0 (t.up F0)).mono ?_;rintro e w1 ⟨rfl,F1⟩
 have G:=F0.trans F1
 replace o1:=o1.up F1
 clear F0 F1
 have HX:=q9 (qc hb1 o1.lt)
 clear hb1
 have d0:=Ob.cell (i:=0) o1 rfl
 have d1:=Ob.cell (i:=1) o1 rfl
 have d2:=Ob.cell (i:=2) o1 rfl
 have d3:=Ob.cell (i:=3) o1 rfl
 have d4:=Ob.cell (i:=4) o1 rfl
 have d5:=Ob.cell (i:=5) o1 rfl
 have d6:=Ob.cell (i:=6) o1 rfl
 go_wp2_with fail
 refine (q81 c.t c.c c.wd c.v rs ps ds _ 200 _ (HS.out.scr.up G)).mono ?_;rintro e w2 ⟨rfl,F2⟩
 replace G:=G.trans F2
 replace o1:=o1.up F2
 clear d0 d1 d2 d3 d4 d5 d6 F2
 have d0:=Ob.cell (i:=0) o1 rfl
 have d1:=Ob.cell (i:=1) o1 rfl
 have d2:=Ob.cell (i:=2) o1 rfl
 have d3:=Ob.cell (i:=3) o1 rfl
 have d4:=Ob.cell (i:=4) o1 rfl
 have d5:=Ob.cell (i:=5) o1 rfl
 have d6:=Ob.cell (i:=6) o1 rfl
 cases hw:Ko c.t c.c c.wd c.v rs ps ds 200 with
 | true =>
  clear hw
  go_wp2_with fail
  go_ret
  exact ⟨rfl,G⟩
 | false =>
  have HW:=q9 (q08 hw)
  clear hw
  have HT:=q9 (qc t hk)
  clear t hk
  go_wp2_with fail
  refine (q8d c rs ps ds ov pv dv ss R _ _ (HS.out.up G) HW.out.2.2.2.2.2 (by have:=HW.out.1;omega)).mono ?_;rintro e w4 ⟨pr,qr,rfl,hpr,hqr,Hr,F4⟩
  have HK:=q9 (q6w HW.out.2.2.2.2.2).1
  obtain ⟨g,hg⟩:=q7z ds ps HW.out.2.2.2.2.2 (by have:=HW.out.1;omega)
  generalize (q3f c rs ds ps).a=s at *
  have HGI:=q9 hg
  clear hg
  replace G:=G.trans F4
  replace o1:=o1.up F4
  clear F4 hpr hqr d0 d1 d2 d3 d4 d5 d6
  go_wp2_with fail
  refine (q59 pr qr s _ Hr).mono ?_;rintro e w5 ⟨pa,qa,rfl,hpa,hqa,Ha,F6⟩
  have hGs:=G.size
  have hbl:=o1.lt
  replace G:=G.trans F6
  replace o1:=o1.up F6
  have d0:=Ob.cell (i:=0) o1 rfl
  have d1:=Ob.cell (i:=1) o1 rfl
  have d2:=Ob.cell (i:=2) o1 rfl
  have d3:=Ob.cell (i:=3) o1 rfl
  have hGs2:=G.size
  have hal:=Ha.lt
  clear Hr F6
  have hk:=HT.out.2
  go_wp2_with fail
  refine (q2c c HK.out (k % 64) (by omega) _).mono ?_;rintro e w6 ⟨b,rfl,hb,D,F7⟩
  have hfl:=flLt HT.out.1
  have hGw:=HX.out
  have HN:=q9 (show (b≠pa/\b≠qa)/\(0≠b/\0≠pa/\0≠qa)/\(b1≠b/\b1≠pa/\b1≠qa)/\(w.heap.size<=b/\w.heap.size<=pa/\w.heap.size<=qa) by omega)
  have A:=Ha.kept F7
  have HG:=q9 (G.trans F7)
  have HO:=q9 (o1.up F7)
  have hlv:(q1s s.l).l=s.l:=rfl
  generalize q1s s.l=sa at *
  clear d0 d1 d2 d3 Ha F7 G o1 hGs hbl hGs2 hal hpa hqa hb hfl hGw
  go_wp2_with fail
  go_loopw [7] (fun iv wr=>EnAt c g s.l w6 b pa qa iv wr) (fun iv _=>200 - (intOf iv).toNat)
  case atStart=>exact ⟨0,Wk.new c (k % 64),sa,rfl,by rw [qbc];omega,by simp [Wk.new],WkI.new (by have:=HT.out.2;omega),hlv,D,A,Fr.refl _ _⟩
  case round =>
   obtain ⟨i,x,s2,rfl,hi,h0,hW,hl,D2,A2,F⟩:=hrel
   have hOK:OkG c g s2.l:=by rw [hl];exact HGI.out
   have hst:=Qq D2 ((HT.out.1.up HG.out).kept F (by simp;exact HN.out.2.1)) A2 HN.out.1 HN.out.2.1.2 (fun l5=>qao HK.out hOK hW l5)
   have HST:=q9 hst
   have HI:=q9 (qc hi (qc (qbz HK.out hOK hW h0) (qc (hW.step HK.out hOK) (qc ((J9 x s2).trans hl) (qc hW h0)))))
   have HF:=q9 F
   have q1:decide ((i:Int)<4000)=true:=by simp;omega
   clear hst hOK D2 A2 F hi h0 hW hl D A hlv
   go_wp2_with fail
   refine HST.out.mono ?_;rintro e w7 ⟨rfl,D3,A3,F3⟩
   have HF3:=q9 (HF.out.trans F3)
   clear F3
   by_cases hz:(x.step s2).1.line=0
   ·have HZ:=q9 (qc hz (qc (qcx x s2 (HI.out.2.2.2.2.1.ln.resolve_left HI.out.2.2.2.2.2)) (HI.out.2.2.1.e0 hz)))
    rw [decide_eq_true hz]
    have es:(x.step s2).1.step (x.step s2).2=((x.step s2).1,(x.step s2).2):=by
     generalize x.step s2=r at *
     unfold Wk.step Wk.live;simp [hz]
    have hi2:=HI.out.2.2.1
    have HI2:=q9 hi2
    clear HI hi2 hz
    generalize (x.step s2).1=x3 at *
    generalize (x.step s2).2=s3 at *
    go_wp2_with fail
    refine (Zy _ pa qa _ A3).mono ?_;rintro e _ ⟨rfl,rfl⟩
    go_wp2_with fail
    refine (Zg D3).mono ?_;rintro e _ ⟨rfl,rfl⟩
    rw [qf HZ.out.1]
    go_wp2_with fail
    refine (q1n _ pa qa _ A3).mono ?_;rintro e w8 ⟨rfl,F8⟩
    have HD4:=q9 (D3.up F8)
    have HA4:=q9 (A3.kept F8)
    have HF4:=q9 (HF3.out.then F8)
    have oA:=Ob.new w8 39 #[.int .i64 s3.a.kind,.int .i64 s3.a.at_,.int .i64 s3.a.old,.int .i64 s3.a.new,.bool s3.a.ok]
    clear D3 A3 F8 HF3 HST
    have hk1:=HZ.out.2.1
    have HL:=q9 (fun (wz:World) (hA:Ar wz pa qa s3)=>q1n wz pa qa s3 hA)
    unfold Acc.val at *
    generalize s3.a.kind=a0 at *
    generalize s3.a.at_=a1 at *
    generalize s3.a.old=a2 at *
    generalize s3.a.new=a3 at *
    generalize s3.a.ok=a4 at *
    subst hk1
    have hw8:=HD4.out.lt
    have hw8a:=HA4.out.lt
    have F9:=(Fr.refl [] w8).alloc (.cells #[.int .i64 1,.int .i64 a1,.int .i64 a2,.int .i64 a3,.bool a4] 39)
    go_wp2_with fail
    generalize World.alloc w8 _=w9 at *
    generalize hb9:w8.heap.size=b9 at *
    have HD9:=q9 (HD4.out.up F9)
    have HA9:=q9 (HA4.out.kept F9)
    have HF9:=q9 (HF4.out.then F9)
    have h10:=Qq HD9.out ((HT.out.1.up HG.out).kept HF9.out (by simp;exact HN.out.2.1)) HA9.out HN.out.1 HN.out.2.1.2 (fun l5=>by have:=HZ.out.1;omega)
    rw [es,decide_eq_true HZ.out.1] at h10
    have HS10:=q9 h10
    have HB9:=q9 (show b9≠b/\b9≠pa/\b9≠qa by omega)
    clear F9 h10 hw8 hw8a
    refine HS10.out.mono ?_;rintro e w10 ⟨rfl,D10,A10,F10⟩
    replace D10:Rf w10 b x3:=D10
    replace A10:Ar w10 pa qa s3:=A10
    have oB:=oA.kept F10 (by simp;exact HB9.out)
    have HF10:=q9 (HF9.out.trans F10)
    have h11:=Qq D10 ((HT.out.1.up HG.out).kept HF10.out (by simp;exact HN.out.2.1)) A10 HN.out.1 HN.out.2.1.2 (fun l5=>by have:=HZ.out.1;omega)
    rw [es,decide_eq_true HZ.out.1] at h11
    have HS11:=q9 h11
    clear F10 h11 oA HS10 D10 A10
    go_wp2_with fail
    refine HS11.out.mono ?_;rintro e w11 ⟨rfl,D11,A11,F11⟩
    replace D11:Rf w11 b x3:=D11
    replace A11:Ar w11 pa qa s3:=A11
    have oC:=oB.kept F11 (by simp;exact HB9.out)
    have HF11:=q9 (HF10.out.trans F11)
    have o11:=HO.out.kept HF11.out (by simp;exact HN.out.2.2.1)
    have HC:=q9 (show ∀ wz,Fr [] w11 wz->Calls Tryz.prog 37 #[.pointer (some ⟨b,0,none⟩)] wz fun e w'=>e = .returned (.int .i64 x3.at_)/\wz=w' from fun wz Fz=>by
     have:=Zg (D11.up Fz)
     rw [qf HZ.out.1] at this
     exact this)
    have HN2:=q9 (show ∀ wz,Fr [] w11 wz->Calls Tryz.prog 23 #[.pointer (some ⟨pa,0,none⟩)] wz fun e w'=>e = .returned (.int .i64 s3.n)/\wz=w' from fun wz Fz=>Zy wz pa qa _ (A11.kept Fz))
    have HLL:=q9 (show ∀ wz,Fr [] w11 wz->Calls Tryz.prog 28 #[.pointer (some ⟨pa,0,none⟩)] wz fun e w'=>e = .returned (.agg #[.int .i64 1,.int .i64 a1,.int .i64 a2,.int .i64 a3,.bool a4])/\Fr [] wz w' from fun wz Fz=>HL.out wz (A11.kept Fz))
    have HP:=q9 (show ∀ wz,Fr [] w11 wz->Calls Tryz.prog 43 #[.agg #[.int .i64 c.t,.int .i64 c.c,.int .i64 c.wd,.int .i64 c.v]] wz fun e w'=>e = .returned (.int .i64 (3+c.t+4))/\Fr [] wz w' from fun wz Fz=>Ref.Q5 c.t c.c c.wd c.v HK.out.t1 HK.out.t8 wz)
    have hgt:3+c.t+4<x3.at_:=by
     have:=Rel.low HK.out HGI.out HZ.out.2.2.1
     omega
    have g5:decide (x3.at_>3+c.t+4)=true:=decide_eq_true hgt
    have hEQ:=qaj 1 a1 a2 a3 1 a1 a2 a3 a4 a4
    simp only [beq_self_eq_true,Bool.and_self] at hEQ
    have hGU:=Al.q8p
    have d0:=qb (Ob.cell (i:=0) o11 rfl)
    have d1:=qb (Ob.cell (i:=1) o11 rfl)
    have d2:=qb (Ob.cell (i:=2) o11 rfl)
    have d3:=qb (Ob.cell (i:=3) o11 rfl)
    have e0:=qb (Ob.cell (i:=0) oC rfl)
    have e1:=qb (Ob.cell (i:=1) oC rfl)
    have e2:=qb (Ob.cell (i:=2) oC rfl)
    have e3:=qb (Ob.cell (i:=3) oC rfl)
    have e4:=qb (Ob.cell (i:=4) oC rfl)
    clear hgt HL HS11 D11 A11 F11 oB oC o11 es
    go_wp2_with fail
    refine wiq ?_
    repeat (go_big_quiet_step ((first | (go_at_call 37;exact Calls.in_same (HC.out _ (In.fr _))) | (go_at_call 23;exact Calls.in_same (HN2.out _ (In.fr _))) | (go_at_call 28;exact Calls.in_ (HLL.out _ (In.fr _))) | (go_at_call 43;exact Calls.in_ (HP.out _ (In.fr _))))))
    refine wpQuiet_nil ?_
    intro w12 F12
    clear d0 d1 d2 d3 e0 e1 e2 e3 e4 HC HN2 HLL HP
    go_wp2
    go_ret
    exact ⟨rfl,(HG.out.own HF11.out (by have:=HN.out.2.2.2;simp;omega)).trans F12⟩
   ·rw [decide_eq_false hz]
    have hch:=Zg D3
    rw [qd hz] at hch
    have HC:=q9 hch
    have HZ:=q9 hz
    clear hch hz
    go_wp2_with fail
    refine HC.out.mono ?_;rintro e _ ⟨rfl,rfl⟩
    have hi7:=HI.out.1
    go_wp2_with fail
    go_roundw
    case rel=>exact ⟨i+1,_,_,by go_num,by have:=HI.out.2.1;omega,HZ.out,HI.out.2.2.1,HI.out.2.2.2.1,D3,A3,HF3.out⟩
    case measure =>
     show 200 - ((i:Int)+1).toNat<200 - ((i:Int)).toNat
     omega
    all_goals (exfalso;omega)
theorem q5h {H:Type} {enc:TypeId×Value->H} {r:Reach} {b0:Nat} {d:DataW H} {p:List MemPlace} {s:Value} (k:Int) (W:World) (t0:Fl W) (hs:Value.okWide Tryz.prog W r b0 27 s) (h:DataW.Trod enc Tryz.prog W 0 (fun _=>true) true 27 s d p) (hk:0<=k/\k<=255) :
  Calls Tryz.prog 8 #[s,.int .u8 k] W fun e w'=>e = .returned (.bool true)/\Fr [] W w':=by
 obtain ⟨t,c,wd,vv,vo,vp,vd,rs,ss,ps,ds,rfl,k1,k2,k3,k4,k5⟩:=Op10.q8w hs h
 exact q8h ⟨t,c,wd,vv⟩ rs ps ds vo vp vd ss (List.range W.heap.size) k hk W t0 (qcg (c:=⟨t,c,wd,vv⟩) k1 k2 k3 k4 k5)
end Go.Proofs.YtppajakfaomkaaaGreatDoor.Dw
