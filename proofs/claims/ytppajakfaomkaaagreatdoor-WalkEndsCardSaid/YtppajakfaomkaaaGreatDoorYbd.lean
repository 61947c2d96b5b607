/- Parts. -/
import Derived.Test.YtppajakfaomkaaaGreatDoorYaf
import Derived.Test.YtppajakfaomkaaaGreatDoorYaq
import Derived.Test.YtppajakfaomkaaaGreatDoorYbc
set_option linter.unusedVariables false
set_option linter.unusedSimpArgs false
set_option maxRecDepth 100000
set_option maxHeartbeats 12800000
namespace Go.Proofs.YtppajakfaomkaaaGreatDoor.Dw
open Go.RowKit Ar Mx Ch Vw
theorem q9k {v:Int} (h0:0<=v) (h1:v<=9223372036854775807):atU v=atW v:=by unfold atU atW;omega
def Rf (w:World) (b:Nat) (x:Wk):Prop:=∃ y,WkR x y/\Y9 w b 117 #[] #[] y
theorem Rf.kept {S:List Nat} {w w':World} {b:Nat} {x:Wk} (h:Rf w b x) (f:Fr S w w') (hb:b∉S):Rf w' b x:=by
 obtain ⟨y,h1,h2⟩:=h
 exact ⟨y,h1,Pb.kept h2 f hb⟩
theorem Rf.up {w w':World} {b:Nat} {x:Wk} (h:Rf w b x) (f:Fr [] w w'):Rf w' b x:=h.kept f (by simp)
theorem Rf.lt {w:World} {b:Nat} {x:Wk} (h:Rf w b x):b<w.heap.size:=by
 obtain ⟨y,h1,h2⟩:=h
 exact Pb.lt h2
theorem q2c (c:Cf) (hc:c.Ok) (key:Int) (hk:0<=key/\key<=63) (w:World):Calls Tryz.prog 35 #[c.val,.int .i64 key] w fun e w'=>∃ b,e = .returned (.pointer (some ⟨b,0,none⟩))/\w.heap.size<=b/\Rf w' b (Wk.new c key)/\Fr [] w w':=by
 refine (q91 c hc key hk w).mono ?_
 rintro e w' ⟨b,rfl,hb,h,F⟩
 exact ⟨b,rfl,hb,⟨_,WkR.new hc hk,h⟩,F⟩
theorem Zg {w:World} {b:Nat} {x:Wk} (h:Rf w b x):Calls Tryz.prog 37 #[.pointer (some ⟨b,0,none⟩)] w fun e w'=>e = .returned (.int .i64 (if x.line=0 then x.at_ else 0))/\w=w':=by
 obtain ⟨y,h1,h2⟩:=h
 refine (q3s (o:=0) h2 rfl).mono ?_
 rintro e w' ⟨rfl,rfl⟩
 by_cases e:x.line=0
 ·rw [qf e,qf (h1.over.2 e),h1.at_ e];exact ⟨rfl,rfl⟩
 ·rw [qd e,qd (fun k=>e (h1.over.1 k))];exact ⟨rfl,rfl⟩
theorem Qq {w:World} {b p q:Nat} {x:Wk} {s:St} (h:Rf w b x) (hf:Fl w) (hA:Ar w p q s) (hne:b≠p/\b≠q) (hg:0≠p/\0≠q) (hv:x.line=5->atU (qq s.l x.looks)=atW (qq s.l x.looks)) :
  Calls Tryz.prog 36 #[.pointer (some ⟨b,0,none⟩),.pointer (some ⟨p,0,none⟩)] w fun e w'=>e = .returned (.bool (decide ((x.step s).1.line=0)))/\Rf w' b (x.step s).1/\Ar w' p q (x.step s).2/\Fr [b,p,q] w w':=by
 obtain ⟨y,h1,h2⟩:=h
 refine (q5s (o:=0) h1.bd h2 rfl hf hA hne hg).mono ?_
 rintro e w' ⟨rfl,k1,k2,k3⟩
 by_cases e:x.line=0
 ·have e5:=h1.over.2 e
  have es:x.step s=(x,s):=by unfold Wk.step Wk.live;simp [e]
  rw [qf e5] at k1 k2 ⊢
  rw [es]
  exact ⟨by rw [decide_eq_true e5,decide_eq_true e],⟨y,h1,k1⟩,k2,k3⟩
 ·have e5:¬ y.line=5:=fun k=>e (h1.over.1 k)
  have hl:x.live=true:=by rcases h1.ln with k | k;exact absurd k e;exact k
  have es:x.step s=(x.next (qq s.l x.looks),s.load x.looks):=by unfold Wk.step;rw [qf hl]
  rw [qd e5] at k1 k2 ⊢
  rw [h1.looks e] at k1 k2 ⊢
  rw [es]
  have h3:=h1.step e (qq s.l x.looks) hv
  refine ⟨?_,⟨_,h3,k1⟩,k2,k3⟩
  have:=h3.over
  congr 2
  exact decide_eq_decide.2 this
def s0:St:=Pl.begun 1 3 100
def c1:Cf:=⟨1,3,100,1000⟩
theorem c1ok:c1.Ok:=⟨by decide,by decide,by decide,by decide,by decide,by decide,by decide,by decide,by decide⟩
def x1:Wk:=Wk.new c1 9
def jk:Nat->Wk->St->Wk×St
 | 0,x,s=>(x,s)
 | n+1,x,s=>let r:=jk n x s;r.1.step r.2
theorem k0:jk 4 x1 s0=(((x1.step s0).1.step (x1.step s0).2).1.step ((x1.step s0).1.step (x1.step s0).2).2).1.step (((x1.step s0).1.step (x1.step s0).2).1.step ((x1.step s0).1.step (x1.step s0).2).2).2:=rfl
theorem l1:(jk 1 x1 s0).1.line=5:=by decide +kernel
theorem l2:(jk 2 x1 s0).1.line=6:=by decide +kernel
theorem l3:(jk 3 x1 s0).1.line=5:=by decide +kernel
theorem l4:(jk 4 x1 s0).1.line=0/\(jk 4 x1 s0).1.at_=15:=by decide +kernel
theorem ac4:(jk 4 x1 s0).2.n=4:=by decide +kernel
theorem v0:x1.line=5->atU (qq s0.l x1.looks)=atW (qq s0.l x1.looks):=by decide +kernel
theorem v1:atU (qq (jk 1 x1 s0).2.l (jk 1 x1 s0).1.looks)=atW (qq (jk 1 x1 s0).2.l (jk 1 x1 s0).1.looks):=by decide +kernel
theorem v2:(jk 2 x1 s0).1.line=5->atU (qq (jk 2 x1 s0).2.l (jk 2 x1 s0).1.looks)=atW (qq (jk 2 x1 s0).2.l (jk 2 x1 s0).1.looks):=by decide +kernel
theorem v3:atU (qq (jk 3 x1 s0).2.l (jk 3 x1 s0).1.looks)=atW (qq (jk 3 x1 s0).2.l (jk 3 x1 s0).1.looks):=by decide +kernel
theorem flLt {w:World} (t:Fl w):0<w.heap.size:=World.block_lt_of_cell? w _ t.1
theorem wnew1 (w:World):Calls Tryz.prog 35 #[.agg #[.int .i64 1,.int .i64 3,.int .i64 100,.int .i64 1000],.int .i64 9] w fun e w'=>∃ b,e = .returned (.pointer (some ⟨b,0,none⟩))/\w.heap.size<=b/\Rf w' b x1/\Fr [] w w':=q2c c1 c1ok 9 (by decide) w
theorem q3m (w:World) (t:Fl w):Calls Tryz.prog 34 #[] w fun e w'=>e = .returned (.bool true)/\Fr [] w w':=by
 have isE:=Er.isE
 go_enter Tryz.func34,Tryz.ntmps34
 go_wp2_with fail
 refine (Pl.q8e 1 3 100 _).mono ?_;rintro e w1 ⟨rfl,F1⟩
 have G:=F1.alloc (.cells #[.int .i64 1,.int .i64 3,.int .i64 100,.int .i64 1000] 23)
 have oc:=Ob.new w1 23 #[.int .i64 1,.int .i64 3,.int .i64 100,.int .i64 1000]
 obtain ⟨c0,c1,c2,c3⟩:=Pl.yf oc
 have hcw:=oc.lt
 have hw1:=F1.size
 clear F1
 go_wp2_with fail
 refine (Pl.q92 1 3 100 1000 (by decide) _).mono ?_;rintro e w2 ⟨p,q,rfl,hp,hq,A,F2⟩
 rw [Vg] at hp hq
 replace oc:=oc.up F2
 have hA2:=A.lt
 replace G:=G.trans F2
 have A:Ar w2 p q s0:=A
 clear F2 c0 c1 c2 c3
 generalize hbc:w1.heap.size=bc at *
 obtain ⟨c0,c1,c2,c3⟩:=Pl.yf oc
 have hcl:=oc.lt
 have t2:=t.up G
 have hflt:=flLt t
 have hG:=G.size
 go_wp2_with fail
 refine (wnew1 _).mono ?_;rintro e w3 ⟨b,rfl,hb,D,F3⟩
 replace A:=A.kept F3
 replace oc:=oc.up F3
 replace G:=G.trans F3
 replace t2:=t2.up F3
 have hne:b≠p/\b≠q:=by omega
 have hg:0≠b/\0≠p/\0≠q:=by omega
 have hbc2:bc≠b/\bc≠p/\bc≠q:=by omega
 have hown:w.heap.size<=b/\w.heap.size<=p/\w.heap.size<=q:=by omega
 have HN:=q9 (qc hne (qc hg (qc hbc2 hown)))
 clear F3 c0 c1 c2 c3 t hcw hw1 hp hq hA2 hcl hflt hG hb hne hg hbc2 hown hbc
 have HO:=q9 oc
 have HG:=q9 G
 have HT:=q9 t2
 clear oc G t2
 go_wp2_with fail
 refine (Zg D).mono ?_;rintro e _ ⟨rfl,rfl⟩
 rw [show (if x1.line=0 then x1.at_ else 0)=0 from rfl]
 go_wp2_with fail
 refine (Qq D HT.out A HN.out.1 HN.out.2.1.2 v0).mono ?_;rintro e w4 ⟨rfl,D4,A4,F4⟩
 have HT4:=q9 (HT.out.kept F4 (by simp;exact HN.out.2.1))
 rw [show (decide ((x1.step s0).1.line=0))=false by rw [decide_eq_false_iff_not];have:=l1;change (x1.step s0).1.line=5 at this;omega]
 clear D A
 go_wp2_with fail
 refine (Qq D4 HT4.out A4 HN.out.1 HN.out.2.1.2 (fun _=>v1)).mono ?_;rintro e w5 ⟨rfl,D5,A5,F5⟩
 have HT5:=q9 (HT4.out.kept F5 (by simp;exact HN.out.2.1))
 rw [show (decide (((x1.step s0).1.step (x1.step s0).2).1.line=0))=false by rw [decide_eq_false_iff_not];have:=l2;change ((x1.step s0).1.step (x1.step s0).2).1.line=6 at this;omega]
 clear D4 A4
 go_wp2_with fail
 refine (Qq D5 HT5.out A5 HN.out.1 HN.out.2.1.2 v2).mono ?_;rintro e w6 ⟨rfl,D6,A6,F6⟩
 have HT6:=q9 (HT5.out.kept F6 (by simp;exact HN.out.2.1))
 rw [show (decide ((((x1.step s0).1.step (x1.step s0).2).1.step ((x1.step s0).1.step (x1.step s0).2).2).1.line=0))=false by rw [decide_eq_false_iff_not];have:=l3;change (((x1.step s0).1.step (x1.step s0).2).1.step ((x1.step s0).1.step (x1.step s0).2).2).1.line=5 at this;omega]
 clear D5 A5
 go_wp2_with fail
 refine (Qq D6 HT6.out A6 HN.out.1 HN.out.2.1.2 (fun _=>v3)).mono ?_;rintro e w7 ⟨rfl,D7,A7,F7⟩
 rw [<- k0] at D7 A7 ⊢
 rw [show (decide ((jk 4 x1 s0).1.line=0))=true from decide_eq_true l4.1]
 have FF:=((F4.trans F5).trans F6).trans F7
 have HG7:=q9 (HG.out.own FF (by have:=HN.out.2.2.2;simp;omega))
 have o7:=HO.out.kept FF (by have:=HN.out.2.2.1;simp;omega)
 have HD:=q9 D7
 have HA:=q9 A7
 clear D6 A6 F4 F5 F6 F7 FF D7 A7
 obtain ⟨c0,c1,c2,c3⟩:=Pl.yf o7
 have j0:=qb c0
 have j1:=qb c1
 have j2:=qb c2
 have j3:=qb c3
 clear c0 c1 c2 c3 o7
 have HC:=q9 (show ∀ wz,Fr [] w7 wz->Calls Tryz.prog 37 #[.pointer (some ⟨b,0,none⟩)] wz fun e w'=>e = .returned (.int .i64 15)/\wz=w' from fun wz Fz=>by
  have:=Zg (HD.out.up Fz)
  rw [qf l4.1,l4.2] at this
  exact this)
 have HX:=q9 (show ∀ wz,Fr [] w7 wz->Calls Tryz.prog 23 #[.pointer (some ⟨p,0,none⟩)] wz fun e w'=>e = .returned (.int .i64 4)/\wz=w' from fun wz Fz=>by
  have:=Zy wz p q _ (HA.out.kept Fz)
  rw [ac4] at this
  exact this)
 have HP:=q9 (show ∀ wz,Fr [] w7 wz->Calls Tryz.prog 92 #[.agg #[.int .i64 1,.int .i64 3,.int .i64 100,.int .i64 1000]] wz fun e w'=>e = .returned (.int .i64 15)/\Fr [] wz w' from fun wz Fz=>Pl.Zi 1 3 100 1000 (by decide) (by decide) wz)
 go_wp2_with fail
 refine wiq ?_
 repeat (go_big_quiet_step ((first | (go_at_call 37;exact Calls.in_same (HC.out _ (In.fr _))) | (go_at_call 23;exact Calls.in_same (HX.out _ (In.fr _))) | (go_at_call 92;exact Calls.in_ (HP.out _ (In.fr _))))))
 refine wpQuiet_nil ?_
 intro w8 F8
 clear j0 j1 j2 j3 HC HX HP
 go_wp2
 go_ret
 exact ⟨rfl,HG7.out.trans F8⟩
end Go.Proofs.YtppajakfaomkaaaGreatDoor.Dw
