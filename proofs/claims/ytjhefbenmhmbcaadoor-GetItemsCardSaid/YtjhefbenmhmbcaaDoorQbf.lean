/- Texts that this proof leans on, one behind the other: Known12, Laws12i. -/
import Derived.Test.YtjhefbenmhmbcaaDoorQaa
import Derived.Test.YtjhefbenmhmbcaaDoorQaf
import Derived.Test.YtjhefbenmhmbcaaDoorQai
import Derived.Test.YtjhefbenmhmbcaaDoorQav
import Derived.Test.YtjhefbenmhmbcaaDoorQbe
set_option linter.unusedVariables false
set_option linter.unusedSimpArgs false
set_option maxRecDepth 100000
set_option maxHeartbeats 12800000
namespace Go.Proofs.YtjhefbenmhmbcaaDoor.Gk
open Go.RowKit Go.Maps Go.Proofs.YtjhefbenmhmbcaaDoor.Ar Go.Proofs.YtjhefbenmhmbcaaDoor.Mx Go.Proofs.YtjhefbenmhmbcaaDoor.Mp Go.Proofs.YtjhefbenmhmbcaaDoor.Ch Go.Proofs.YtjhefbenmhmbcaaDoor.Dw Go.Proofs.YtjhefbenmhmbcaaDoor.Ge
set_option maxRecDepth 100000
def s0:St:=Pl.begun 1 3 100
def c1:Cf:=⟨1,3,100,1000⟩
theorem c1ok:c1.Ok:=⟨by decide,by decide,by decide,by decide,by decide,by decide,by decide,by decide,by decide⟩
def x1:Wk:=Wk.new c1 7
def stepsG:Nat→Wk→St→Wk×St
 | 0,x,s=>(x,s)
 | n+1,x,s=>let r:=stepsG n x s;r.1.step r.2
theorem lnG:∀ k,k<4→(stepsG k x1 s0).1.line≠0:=by decide +kernel
theorem endG:(stepsG 4 x1 s0).1.line=0:=by decide +kernel
theorem atG:(stepsG 4 x1 s0).1.at_=15:=by decide +kernel
theorem vsG:∀ k,k<4→(stepsG k x1 s0).1.line=5→atU (peek (stepsG k x1 s0).2.l (stepsG k x1 s0).1.looks)=atW (peek (stepsG k x1 s0).2.l (stepsG k x1 s0).1.looks):=by decide +kernel
def s4:St:=(stepsG 4 x1 s0).2
def z4:Lok:=Lok.new c1 15 7 7 1073741824
theorem endZ:(z4.step s4).1.line=0:=by decide +kernel
theorem itsZ:(z4.step s4).1.l=[]:=by decide +kernel
def wordsIn (l:List Int):Bool:=l.all fun v=>decide (v≤9223372036854775807)
theorem peek_in {l:List Int} (h:wordsIn l=true) (p:Int):peek l p≤9223372036854775807:=by
 unfold wordsIn at h
 rw [List.all_eq_true] at h
 unfold peek nth
 split
 ·rw [List.getD_eq_getElem?_getD]
  cases e:l[p.toNat]? with
  | none=>simp
  | some v=>have:=h v (List.mem_of_getElem? e);simpa using this
 ·omega
theorem words4:wordsIn s4.l=true:=by decide +kernel
theorem tabK {S:List Nat} {w w':World} (t:Word.Tab w) (f:Fr S w w') (h:1∉S):Word.Tab w':=by
 obtain ⟨t0,t1,t2,t3,t4,t5,t6,t7,t8,t9,t10,t11⟩:=t
 exact ⟨f.cell t0 h,f.cell t1 h,f.cell t2 h,f.cell t3 h,f.cell t4 h,f.cell t5 h,f.cell t6 h,f.cell t7 h,f.cell t8 h,f.cell t9 h,f.cell t10 h,f.cell t11 h⟩
theorem tabLt {w:World} (t:Word.Tab w):1<w.heap.size:=World.block_lt_of_cell? w _ t.1
theorem flLt {w:World} (t:Fl w):0<w.heap.size:=World.block_lt_of_cell? w _ t.1
theorem gnew1 (w:World):Calls Tryd.prog 8 #[.agg #[.int .i64 1,.int .i64 3,.int .i64 100,.int .i64 1000],.int .i64 7] w fun e w'=>∃ b,e = .returned (.pointer (some ⟨b,0,none⟩))∧w.heap.size≤b∧GeW w' b c1 7 x1∧Fr [] w w':=gnew_any c1 c1ok 7 (by decide) w
theorem sq_two (w:World) (T:TypeId) (x y:It):Sq fT (w.alloc (.cells #[.int .i64 x.k,.int .i64 x.v,.int .i64 x.d,.int .i64 y.k,.int .i64 y.v,.int .i64 y.d] T)) (.slice (some ⟨w.heap.size,0,none⟩) 2 2) [x,y]:=by
 have o:=Ob.new w T #[.int .i64 x.k,.int .i64 x.v,.int .i64 x.d,.int .i64 y.k,.int .i64 y.v,.int .i64 y.d]
 refine ⟨_,2,rfl,Nat.le_refl _,by decide,.inr ⟨_,0,rfl,o.lt,?_⟩⟩
 intro j u hu
 rw [Nat.zero_add]
 exact o.cell (by simpa [fT] using hu)
theorem sq_one (w:World) (T:TypeId) (x:It):Sq fT (w.alloc (.cells #[.int .i64 x.k,.int .i64 x.v,.int .i64 x.d] T)) (.slice (some ⟨w.heap.size,0,none⟩) 1 1) [x]:=by
 have o:=Ob.new w T #[.int .i64 x.k,.int .i64 x.v,.int .i64 x.d]
 refine ⟨_,1,rfl,Nat.le_refl _,by decide,.inr ⟨_,0,rfl,o.lt,?_⟩⟩
 intro j u hu
 rw [Nat.zero_add]
 exact o.cell (by simpa [fT] using hu)
theorem dof1 (w:World) (v:Value) (h:Sq fT w v [⟨7,0,6291462⟩,⟨8,0,8388608⟩]):Calls Tryd.prog 5 #[v,.int .i64 7] w fun e w'=>e = .returned (.agg #[.int .i64 0,.bool true,.int .i64 5,.int .i64 3,.int .i64 0,.slice none 0 0])∧Fr [] w w':=by
 refine (dof_any _ 7 v w (by decide) (by decide) (by decide) ?_ h).mono ?_
 ·intro x hx
  obtain rfl:(⟨7,0,6291462⟩:It)=x:=Option.some.inj hx
  decide
 ·rintro e w' ⟨rfl,F⟩
  exact ⟨rfl,F⟩
theorem dof2 (w:World) (v:Value) (h:Sq fT w v [⟨8,0,8388608⟩]):Calls Tryd.prog 5 #[v,.int .i64 8] w fun e w'=>e = .returned (.agg #[.int .i64 0,.bool false,.int .i64 0,.int .i64 4,.int .i64 0,.slice none 0 0])∧Fr [] w w':=by
 refine (dof_any _ 8 v w (by decide) (by decide) (by decide) ?_ h).mono ?_
 ·intro x hx
  obtain rfl:(⟨8,0,8388608⟩:It)=x:=Option.some.inj hx
  decide
 ·rintro e w' ⟨rfl,F⟩
  exact ⟨rfl,F⟩
theorem gans1 {w:World} {b m n:Nat} (h:GeL w b m n c1 7 2 (z4.step s4).1) (hn:n≤1000):Calls Tryd.prog 11 #[.pointer (some ⟨b,0,none⟩)] w fun e w'=>e = .returned (.agg #[.int .i64 0,.bool false,.int .i64 0,.int .i64 (-1),.int .i64 0,.slice none 0 0])∧Fr [] w w':=by
 have:=ganswer_any h (by rw [itsZ];simp) hn (by rw [itsZ];simp) (by rw [itsZ];simp) (by decide) (by rw [itsZ];simp [lastG])
 rw [itsZ] at this
 exact this
theorem same1 (w:World):Calls Tryd.prog 10 #[.agg #[.int .i64 0,.bool false,.int .i64 0,.int .i64 (-1),.int .i64 0,.slice none 0 0],.agg #[.int .i64 0,.bool false,.int .i64 0,.int .i64 (-1),.int .i64 0,.slice none 0 0]] w fun e w'=>e = .returned (.bool true)∧Fr [] w w' :=
 sameAnswer_true ⟨0,false,0,-1,0,[]⟩ (.slice none 0 0) (.slice none 0 0) w ⟨none,0,rfl,by decide,.inl rfl⟩ ⟨none,0,rfl,by decide,.inl rfl⟩
def GkR (W:World) (b p q:Nat) (v:Value) (wr:World):Prop:=∃ k:Nat,v = .int .i64 (k:Nat)∧Fr [b,p,q] W wr∧((k<4∧GeW wr b c1 7 (stepsG k x1 s0).1∧Ar wr p q (stepsG k x1 s0).2)∨(k=4∧∃ m,W.heap.size≤m∧GeL wr b m 0 c1 7 1 z4∧Ar wr p q s4))
theorem known_true (w:World) (t:Word.Tab w) (f:Fl w):Calls Tryd.prog 4 #[] w fun e w'=>e = .returned (.bool true)∧Fr [] w w':=by
 have isE:=Er.isE
 go_enter Tryd.func4,Tryd.ntmps4
 go_wp2_with fail
 refine (Pl.conf_any 1 3 100 _).mono ?_;rintro e w1 ⟨rfl,F1⟩
 have G:=F1.alloc (.cells #[.int .i64 1,.int .i64 3,.int .i64 100,.int .i64 1000] 34)
 have oc:=Ob.new w1 34 #[.int .i64 1,.int .i64 3,.int .i64 100,.int .i64 1000]
 obtain ⟨c0,c1',c2,c3⟩:=Pl.cells4 oc
 have hcw:=oc.lt
 have hw1:=F1.size
 clear F1
 go_wp2_with fail
 refine (Pl.make_yes 1 3 100 1000 (by decide) _).mono ?_;rintro e w2 ⟨p,q,rfl,hp,hq,A,F2⟩
 rw [sizeA] at hp hq
 replace oc:=oc.up F2
 have hA2:=A.lt
 replace G:=G.trans F2
 have A:Ar w2 p q s0:=A
 clear F2 c0 c1' c2 c3
 generalize hbc:w1.heap.size=bc at *
 obtain ⟨c0,c1',c2,c3⟩:=Pl.cells4 oc
 have hcl:=oc.lt
 have hG:=G.size
 have hfl:=flLt f
 have htl:=tabLt t
 go_wp2_with fail
 refine (gnew1 _).mono ?_;rintro e w3 ⟨b,rfl,hb,D,F3⟩
 replace A:=A.kept F3
 have hbl:=D.lt
 have hAl:=A.lt
 replace G:=G.trans F3
 have HN:=Lib.hid (show b≠p∧b≠q from by omega)
 have HT:=Lib.hid (And.intro (t.1) (And.intro (tabK t G (by simp)) (show 1≠b∧1≠p∧1≠q by omega)))
 have HF:=Lib.hid (And.intro (f.up G) (show 0≠b∧0≠p∧0≠q by omega))
 have HB:=Lib.hid (show w.heap.size≤b∧w.heap.size≤p∧w.heap.size≤q by omega)
 have HL:=Lib.hid (show b<w3.heap.size∧p<w3.heap.size∧q<w3.heap.size from ⟨hbl,by omega,by omega⟩)
 have HG:=Lib.hid G
 clear F3 c0 c1' c2 c3 hcw hw1 hp hq hA2 hcl hG hfl htl hb hbl hAl hbc oc t f G
 go_wp2_with fail
 go_loopw [5] (GkR w3 b p q) (fun v _=>20 - (intOf v).toNat)
 case atStart=>exact ⟨0,rfl,Fr.refl _ _,.inl ⟨by omega,D,A⟩⟩
 ·skip
  clear D A
  obtain ⟨k,rfl,F2,hrel⟩:=hrel
  rcases hrel with ⟨hk,D2,A2⟩ | ⟨rfl,m,hm,D2,A2⟩
  ·have g1:decide ((k:Int)<20)=true:=by simp;omega
   by_cases hk3:k<3
   ·have hst:=gwalk_any D2 (lnG k hk) (HF.out.1.kept F2 (by simp;exact HF.out.2)) A2 HN.out HF.out.2.2 (vsG k hk) (lnG (k+1) (by omega))
    have HS:=Lib.hid hst
    clear hst D2 A2
    go_wp2_with fail
    refine HS.out.mono ?_;rintro e w9 ⟨rfl,D3,A3,F3⟩
    clear HS
    go_wp2_with fail
    go_roundw
    case rel=>exact ⟨k+1,by simp,F2.trans F3,.inl ⟨by omega,D3,A3⟩⟩
    case measure=>simp [intOf];omega
   ·obtain rfl:k=3:=by omega
    have hst:=gturn_any D2 (lnG 3 hk) (HF.out.1.kept F2 (by simp;exact HF.out.2)) A2 HN.out HF.out.2.2 (vsG 3 hk) endG
    have HS:=Lib.hid hst
    clear hst D2 A2
    go_wp2_with fail
    refine HS.out.mono ?_;rintro e w9 ⟨rfl,⟨m,hm,D3⟩,A3,F3⟩
    clear HS
    have D4:GeL w9 b m 0 c1 7 1 (Lok.new c1 (stepsG 4 x1 s0).1.at_ 7 7 1073741824):=D3
    rw [atG] at D4
    clear D3
    go_wp2_with fail
    go_roundw
    case rel=>exact ⟨4,by simp,F2.trans F3,.inr ⟨rfl,m,Nat.le_trans F2.size hm,D4,A3⟩⟩
    case measure=>simp [intOf]
  ·have g1:decide (((4:Nat):Int)<20)=true:=by decide
   have HM:=Lib.hid (show b≠p∧b≠q∧b≠m∧m≠p∧m≠q from by have:=HL.out;have:=HN.out;omega)
   have hst:=glook_any D2 (LokOk.new c1ok 15 7 7 1073741824) (Ek.LkS.new c1 15 7 7 1073741824 (by decide)) (by decide) (peek_in words4) (tabK HT.out.2.1 F2 (by simp;exact HT.out.2.2)) HT.out.2.2.2 (by decide) HM.out A2
   have HS:=Lib.hid hst
   clear hst D2 A2
   go_wp2_with fail
   refine HS.out.mono ?_;rintro e w9 ⟨rfl,⟨n,hn,D3⟩,A3,F3⟩
   rw [if_pos endZ] at D3
   rw [decide_eq_true endZ]
   have hmw:w.heap.size≤m:=by have:=HG.out.size;omega
   have F9:=HG.out.own ((F2.mono).trans F3) (by have:=HB.out;simp;omega)
   have HD:=Lib.hid (And.intro D3 (And.intro hn F9))
   clear HS D3 A3 F2 F3 F9 hn hmw hm HB HL HG HT HF HN HM
   go_wp2_with fail
   have F10:=(Fr.refl [] w9).alloc (.cells #[.int .i64 7,.int .i64 0,.int .i64 6291462,.int .i64 8,.int .i64 0,.int .i64 8388608] 26)
   refine (dof1 _ _ (sq_two w9 _ ⟨7,0,6291462⟩ ⟨8,0,8388608⟩)).mono ?_;rintro e w11 ⟨rfl,F11⟩
   have F12:=(F10.trans F11).alloc (.cells #[.int .i64 0,.bool true,.int .i64 5,.int .i64 3,.int .i64 0,.slice none 0 0] 30)
   have oa:=Ob.new w11 30 #[.int .i64 0,.bool true,.int .i64 5,.int .i64 3,.int .i64 0,.slice none 0 0]
   clear F10 F11
   go_wp2_with fail
   have hsz:=sizeA w11 (.cells #[.int .i64 0,.bool true,.int .i64 5,.int .i64 3,.int .i64 0,.slice none 0 0] 30)
   generalize hb1:w11.heap.size=b1 at *
   generalize World.alloc w11 (.cells #[.int .i64 0,.bool true,.int .i64 5,.int .i64 3,.int .i64 0,.slice none 0 0] 30)=wb at *
   rw [← hsz]
   clear hsz hb1
   have F13:=F12.alloc (.cells #[.int .i64 8,.int .i64 0,.int .i64 8388608] 26)
   have oa2:=oa.up ((Fr.refl [] _).alloc (.cells #[.int .i64 8,.int .i64 0,.int .i64 8388608] 26))
   refine (dof2 _ _ (sq_one wb _ ⟨8,0,8388608⟩)).mono ?_;rintro e w12 ⟨rfl,F14⟩
   have F15:=(F13.trans F14).alloc (.cells #[.int .i64 0,.bool false,.int .i64 0,.int .i64 4,.int .i64 0,.slice none 0 0] 30)
   have oa3:=(oa2.up F14).up ((Fr.refl [] _).alloc (.cells #[.int .i64 0,.bool false,.int .i64 0,.int .i64 4,.int .i64 0,.slice none 0 0] 30))
   have ob:=Ob.new w12 30 #[.int .i64 0,.bool false,.int .i64 0,.int .i64 4,.int .i64 0,.slice none 0 0]
   clear F12 F13 F14 oa oa2
   go_wp2_with fail
   generalize hb2:w12.heap.size=b2 at *
   generalize World.alloc w12 (.cells #[.int .i64 0,.bool false,.int .i64 0,.int .i64 4,.int .i64 0,.slice none 0 0] 30)=wd at *
   clear hb2
   refine (gans1 (HD.out.1.kept F15 (by simp) (by simp)) (by have:=HD.out.2.1;omega)).mono ?_;rintro e w13 ⟨rfl,F16⟩
   replace oa3:=oa3.up F16
   replace ob:=ob.up F16
   have F17:=F15.trans F16
   clear F15 F16
   go_wp2_with fail
   refine (same1 _).mono ?_;rintro e w14 ⟨rfl,F18⟩
   replace oa3:=oa3.up F18
   replace ob:=ob.up F18
   have F19:=HD.out.2.2.trans (F17.trans F18)
   clear F17 F18 HD
   obtain ⟨q0,q1,q2,q3,q4,q5⟩:=Mx.cells6 oa3
   obtain ⟨r0,r1,r2,r3,r4,r5⟩:=Mx.cells6 ob
   clear oa3 ob
   go_wp2_with fail
   go_ret
   exact ⟨rfl,F19⟩
set_option maxRecDepth 100000
theorem row_one (w:World) (x:It):(w.alloc (.cells #[.int .i64 x.k,.int .i64 x.v,.int .i64 x.d] 26)).ownsRow w.heap.size 26 3 (.slice (some ⟨w.heap.size,0,none⟩) 1 1) [x].length ([x].flatMap fT) :=
 ⟨rfl,.inr ⟨w.heap.size,1,_,rfl,Nat.le_refl _,Go.heap_alloc_new w _,Nat.le_refl _,by decide,rfl,rfl⟩⟩
def dD (w v:Int) (d:Bool):Int:=if d then w * 2097152 else w * 2097152+(v+1)
theorem dD_of (w v:Int) (d:Bool) (hw:0≤w∧w≤65535) (hv:0≤v∧v≤65535):ofA (some ⟨0,3,dD w v d⟩)=⟨0,!d,if d then 0 else v,w,0,[]⟩:=by
 unfold ofA dD valW whoW
 cases d
 ·have h1:(w * 2097152+(v+1)) % 2097152 - 1=v:=by omega
  have h2:(w * 2097152+(v+1)) / 2097152=w:=by omega
  simp only [Bool.false_eq_true,if_false,h1,h2,Bool.not_false]
  rw [show decide (0≤v)=true by simp;omega,show max 0 v=v by omega]
 ·have h1:(w * 2097152) % 2097152 - 1 = -1:=by omega
  have h2:(w * 2097152) / 2097152=w:=by omega
  simp only [if_true,h1,h2,Bool.not_true]
  rfl
theorem wfI {x:Int} (h0:-9223372036854775808≤x) (h1:x≤9223372036854775807):(Lit.int .i64 x).wf=true:=by
 have e1:IntKind.i64.min = -9223372036854775808:=by decide
 have e2:IntKind.i64.max=9223372036854775807:=by decide
 unfold Lit.wf
 simp only [e1,e2,Bool.and_eq_true,decide_eq_true_eq]
 exact ⟨h0,h1⟩
theorem dof3 (w:World) (u:Value) (k a v:Int) (d:Bool) (hk:0≤k∧k≤63) (ha:0≤a∧a≤65535) (hv:0≤v∧v≤65535) (h:Sq fT w u [⟨k+100,0,5⟩,⟨k,3,dD a v d⟩]):Calls Tryd.prog 5 #[u,.int .i64 k] w fun e w'=>e = .returned (.agg #[.int .i64 0,.bool (!d),.int .i64 (if d then 0 else v),.int .i64 a,.int .i64 0,.slice none 0 0])∧Fr [] w w':=by
 have hl:lastG [(⟨k+100,0,5⟩:It),⟨k,3,dD a v d⟩] k=some ⟨k,3,dD a v d⟩:=by
  unfold lastG
  rw [List.filter_cons_of_neg (by simp;omega),List.filter_cons_of_pos (by simp)];rfl
 have hdd:0≤dD a v d∧dD a v d≤9223372036854775807:=by unfold dD;split <;> omega
 refine (dof_any _ k u w (by simp) (by intro x hx;simp at hx;rcases hx with rfl | rfl <;> exact wfI (by simp only;omega) (by simp only;omega)) (wfI (by omega) (by omega)) ?_ h).mono ?_
 ·intro x hx
  rw [hl] at hx
  obtain rfl:=Option.some.inj hx
  exact hdd
 ·rintro e w' ⟨rfl,F⟩
  refine ⟨?_,F⟩
  rw [hl,show ofA (some ⟨k,3,dD a v d⟩)=ofA (some ⟨0,3,dD a v d⟩) from rfl,dD_of a v d ha hv]
  rfl
theorem dof4 (w:World) (u:Value) (k:Int) (hk:0≤k∧k≤63) (h:Sq fT w u [⟨k+100,0,5⟩]):Calls Tryd.prog 5 #[u,.int .i64 k] w fun e w'=>e = .returned (.agg #[.int .i64 0,.bool false,.int .i64 0,.int .i64 (-1),.int .i64 0,.slice none 0 0])∧Fr [] w w':=by
 have hl:lastG [(⟨k+100,0,5⟩:It)] k=none:=by
  unfold lastG
  rw [List.filter_cons_of_neg (by simp;omega)];rfl
 refine (dof_any _ k u w (by simp) (by intro x hx;simp at hx;subst hx;exact wfI (by simp only;omega) (by simp only;omega)) (wfI (by omega) (by omega)) ?_ h).mono ?_
 ·intro x hx
  rw [hl] at hx
  simp at hx
 ·rintro e w' ⟨rfl,F⟩
  refine ⟨?_,F⟩
  rw [hl]
  rfl
theorem items_any (k a v:Int) (d two:Bool) (w:World) (t:Word.Tab w) (f:Fl w) (hk:0≤k∧k≤255) (ha:0≤a∧a≤65535) (hv:0≤v∧v≤65535) :
  Calls Tryd.prog 3 #[.int .u8 k,.int .u16 a,.int .u16 v,.bool d,.bool two] w fun e w'=>e = .returned (.bool true)∧Fr [] w w':=by
 have HK:=Lib.hid (known_true w t f)
 go_enter Tryd.func3,Tryd.ntmps3
 go_wp2_with fail
 refine HK.out.mono ?_;rintro e w0 ⟨rfl,G⟩
 clear HK t f
 have hj:bits .or .i64 (a * 2097152) (v+1)=dD a v false:=by
  have:=join_i64 a (v+1) 21 (by decide) (by omega) (by omega) (by omega) (by simp only [Int.reducePow];omega)
  simp only [Int.reducePow] at this
  exact this
 have hjd:a * 2097152=dD a v true:=rfl
 have HJ:=Lib.hid hj
 have HV:=Lib.hid hv
 have HA:=Lib.hid ha
 have hk6:0≤k % 64∧k % 64≤63:=by omega
 have HK6:=Lib.hid hk6
 have HG:=Lib.hid G
 clear hj hjd hk6 G
 cases two
 ·have S0:=sq_one w0 26 ⟨k % 64+100,0,5⟩
  have F0:=(Fr.refl [] w0).alloc (.cells #[.int .i64 (k % 64+100),.int .i64 0,.int .i64 5] 26)
  cases d
  all_goals
   go_wp2_with fail
   refine (dof4 _ _ _ HK6.out S0).mono ?_;rintro e w1 ⟨rfl,F1⟩
   have F2:=HG.out.trans ((F0.trans F1).alloc (.cells #[.int .i64 0,.bool false,.int .i64 0,.int .i64 (-1),.int .i64 0,.slice none 0 0] 30))
   have HF:=Lib.hid F2
   obtain ⟨q0,q1,q2,q3,q4,q5⟩:=Mx.cells6 (Ob.new w1 30 #[.int .i64 0,.bool false,.int .i64 0,.int .i64 (-1),.int .i64 0,.slice none 0 0])
   clear S0 F0 F1 F2
   go_wp2_with fail
   go_ret
   exact ⟨rfl,HF.out⟩
 ·have F0:=(Fr.refl [] w0).alloc (.cells #[.int .i64 (k % 64+100),.int .i64 0,.int .i64 5] 26)
  have hsz:=sizeA w0 (.cells #[.int .i64 (k % 64+100),.int .i64 0,.int .i64 5] 26)
  cases d
  ·have R0:=row_keeps (row_one w0 ⟨k % 64+100,0,5⟩) ((Fr.refl [] _).alloc (.cells #[.int .i64 (k % 64),.int .i64 3,.int .i64 (bits .or .i64 (a * 2097152) (v+1))] 26))
   have S0:=sq_one (w0.alloc (.cells #[.int .i64 (k % 64+100),.int .i64 0,.int .i64 5] 26)) 26 ⟨k % 64,3,bits .or .i64 (a * 2097152) (v+1)⟩
   have F1:=F0.alloc (.cells #[.int .i64 (k % 64),.int .i64 3,.int .i64 (bits .or .i64 (a * 2097152) (v+1))] 26)
   rw [hsz] at S0
   have hlt:=F1.size
   clear F0
   go_wp2_with (at_builtin;go_loud (refine wpList_appSq fT_lays rfl _ _ 27 rfl Tryd.underlying27 itI rfl (B:=w0.heap.size) (.slice (some ⟨w0.heap.size,0,none⟩) 1 1) [(⟨k % 64+100,0,5⟩:It)] rfl R0 (.slice (some ⟨w0.heap.size+1,0,none⟩) 1 1) [(⟨k % 64,3,bits .or .i64 (a * 2097152) (v+1)⟩:It)] rfl S0 (by simp) (by decide) hlt ?_);intro a9 c9 w9 r9 F9)
   have S9:Sq fT w9 (.slice a9 2 c9) [⟨k % 64+100,0,5⟩,⟨k % 64,3,dD a v false⟩]:=by rw [← HJ.out];exact Sq.own r9
   have G9:=(HG.out.trans F1).own F9 (by have:=HG.out.size;simp [Value.ownBlock];omega)
   clear R0 S0 F1 hlt hsz r9 F9
   refine (dof3 w9 _ _ a v false HK6.out HA.out HV.out S9).mono ?_;rintro e w10 ⟨rfl,F10⟩
   simp only [Bool.not_false,Bool.not_true,Bool.false_eq_true,if_false,if_true]
   have HF:=Lib.hid ((G9.trans F10).alloc (.cells #[.int .i64 0,.bool true,.int .i64 v,.int .i64 a,.int .i64 0,.slice none 0 0] 30))
   obtain ⟨q0,q1,q2,q3,q4,q5⟩:=Mx.cells6 (Ob.new w10 30 #[.int .i64 0,.bool true,.int .i64 v,.int .i64 a,.int .i64 0,.slice none 0 0])
   clear S9 G9 F10
   go_wp2_with fail
   go_ret
   exact ⟨rfl,HF.out⟩
  ·have R0:=row_keeps (row_one w0 ⟨k % 64+100,0,5⟩) ((Fr.refl [] _).alloc (.cells #[.int .i64 (k % 64),.int .i64 3,.int .i64 (a * 2097152)] 26))
   have S0:=sq_one (w0.alloc (.cells #[.int .i64 (k % 64+100),.int .i64 0,.int .i64 5] 26)) 26 ⟨k % 64,3,a * 2097152⟩
   have F1:=F0.alloc (.cells #[.int .i64 (k % 64),.int .i64 3,.int .i64 (a * 2097152)] 26)
   rw [hsz] at S0
   have hlt:=F1.size
   clear F0
   go_wp2_with (at_builtin;go_loud (refine wpList_appSq fT_lays rfl _ _ 27 rfl Tryd.underlying27 itI rfl (B:=w0.heap.size) (.slice (some ⟨w0.heap.size,0,none⟩) 1 1) [(⟨k % 64+100,0,5⟩:It)] rfl R0 (.slice (some ⟨w0.heap.size+1,0,none⟩) 1 1) [(⟨k % 64,3,a * 2097152⟩:It)] rfl S0 (by simp) (by decide) hlt ?_);intro a9 c9 w9 r9 F9)
   have S9:Sq fT w9 (.slice a9 2 c9) [⟨k % 64+100,0,5⟩,⟨k % 64,3,dD a v true⟩]:=by exact Sq.own r9
   have G9:=(HG.out.trans F1).own F9 (by have:=HG.out.size;simp [Value.ownBlock];omega)
   clear R0 S0 F1 hlt hsz r9 F9
   refine (dof3 w9 _ _ a v true HK6.out HA.out HV.out S9).mono ?_;rintro e w10 ⟨rfl,F10⟩
   simp only [Bool.not_false,Bool.not_true,Bool.false_eq_true,if_false,if_true]
   have HF:=Lib.hid ((G9.trans F10).alloc (.cells #[.int .i64 0,.bool false,.int .i64 0,.int .i64 a,.int .i64 0,.slice none 0 0] 30))
   obtain ⟨q0,q1,q2,q3,q4,q5⟩:=Mx.cells6 (Ob.new w10 30 #[.int .i64 0,.bool false,.int .i64 0,.int .i64 a,.int .i64 0,.slice none 0 0])
   clear S9 G9 F10
   go_wp2_with fail
   go_ret
   exact ⟨rfl,HF.out⟩
end Go.Proofs.YtjhefbenmhmbcaaDoor.Gk
