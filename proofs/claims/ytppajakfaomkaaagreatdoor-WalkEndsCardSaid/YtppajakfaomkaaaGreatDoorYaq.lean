/- Parts. -/
import Derived.Test.YtppajakfaomkaaaGreatDoorYae
import Derived.Test.YtppajakfaomkaaaGreatDoorYag
import Derived.Test.YtppajakfaomkaaaGreatDoorYai
import Derived.Test.YtppajakfaomkaaaGreatDoorYak
import Derived.Test.YtppajakfaomkaaaGreatDoorYam
import Derived.Test.YtppajakfaomkaaaGreatDoorYao
import Derived.Test.YtppajakfaomkaaaGreatDoorYap
set_option linter.unusedVariables false
set_option linter.unusedSimpArgs false
set_option maxRecDepth 100000
set_option maxHeartbeats 12800000
namespace Go.Proofs.YtppajakfaomkaaaGreatDoor.Wd
open Go.RowKit Ar Ref Og Mx
def Ko (t c wd v:Int) (rs:List (List O)) (ps ds:List Int) (k:Int):Bool:=decide (k<ps.length) || decide (10<rs.length) || decide (50<ds.length) || decide (8000<wd) || rs.any (fun r=>decide (60<r.length)) || decide (Z7 t c wd v rs ps≠0)
theorem q08 {t c wd v:Int} {rs:List (List O)} {ps ds:List Int} {k:Int} (h:Ko t c wd v rs ps ds k=false):(ps.length:Int)<=k/\rs.length<=10/\ds.length<=50/\wd<=8000/\(∀ r,r∈rs->r.length<=60)/\Z7 t c wd v rs ps=0:=by
 unfold Ko at h
 simp only [Bool.or_eq_false_iff,decide_eq_false_iff_not] at h
 obtain ⟨⟨⟨⟨⟨h1,h2⟩,h3⟩,h4⟩,h5⟩,h6⟩:=h
 exact ⟨by omega,by omega,by omega,by omega,fun r hr=>by have:=List.any_eq_false.1 h5 r hr;simpa using this,by omega⟩
def WdAt (w:World) (rs:List (List O)) (x:Value) (wr:World):Prop:=∃ n:Nat,n<=rs.length/\x = .int .i64 n/\wr=w/\∀ i,i<n->¬ 60<(J0 rs i).length
theorem q81 (t c wd v:Int) (rs:List (List O)) (ps ds:List Int) (s:Value) (k:Int) (w:World) (h:Scr w s t c wd v rs ps ds) :
  Calls Tryz.prog 13 #[s,.int .i64 k] w fun e w'=>e = .returned (.bool (Ko t c wd v rs ps ds k))/\Fr [] w w':=by
 have H:=q9 h
 obtain ⟨vo,vp,vd,rfl,hr,hp,hd⟩:=h
 obtain ⟨a,cap,x,rfl,hl,hc,hrow⟩:=hr
 obtain ⟨a2,cap2,rfl,hl2,-,-⟩:=hp
 obtain ⟨a3,cap3,rfl,hl3,-,-⟩:=hd
 have HC:=q9 hc
 have HR:=q9 hrow
 clear hc hrow
 unfold maxLen at hl hl2 hl3
 generalize hX:Ko t c wd v rs ps ds k=X
 have HX:=q9 hX
 clear hX
 have F0:=(Fr.refl [] w).alloc (.cells #[.int .i64 t,.int .i64 c,.int .i64 wd,.int .i64 v,.slice a rs.length cap,.slice a2 ps.length cap2,.slice a3 ds.length cap3] 27)
 have hb:=Go.heap_alloc_new w (.cells #[.int .i64 t,.int .i64 c,.int .i64 wd,.int .i64 v,.slice a rs.length cap,.slice a2 ps.length cap2,.slice a3 ds.length cap3] 27)
 obtain ⟨c0,c1,c2,c3,c4,c5,c6⟩:=q1u hb
 by_cases h1:k<ps.length
 ·have g:decide ((ps.length:Int)>k)=true:=by simpa using h1
  have e:X=true:=by rw [<- HX.out];unfold Ko;simp [h1]
  clear h1
  go_enter Tryz.func13,Tryz.ntmps13
  go_wp2
  go_ret
  exact ⟨by rw [e];rfl,F0⟩
 have g1:decide ((ps.length:Int)>k)=false:=by simpa using h1
 by_cases h2:10<rs.length
 ·have g:decide ((rs.length:Int)>10)=true:=by simp;omega
  have e:X=true:=by rw [<- HX.out];unfold Ko;simp [h2]
  clear h1 h2
  go_enter Tryz.func13,Tryz.ntmps13
  go_wp2
  go_ret
  exact ⟨by rw [e];rfl,F0⟩
 have g2:decide ((rs.length:Int)>10)=false:=by simp;omega
 by_cases h3:50<ds.length
 ·have g:decide ((ds.length:Int)>50)=true:=by simp;omega
  have e:X=true:=by rw [<- HX.out];unfold Ko;simp [h3]
  clear h1 h2 h3
  go_enter Tryz.func13,Tryz.ntmps13
  go_wp2
  go_ret
  exact ⟨by rw [e];rfl,F0⟩
 have g3:decide ((ds.length:Int)>50)=false:=by simp;omega
 by_cases h4:8000<wd
 ·have g:decide (wd>8000)=true:=by simpa using h4
  have e:X=true:=by rw [<- HX.out];unfold Ko;simp [h4]
  clear h1 h2 h3 h4
  go_enter Tryz.func13,Tryz.ntmps13
  go_wp2
  go_ret
  exact ⟨by rw [e];rfl,F0⟩
 have g4:decide (wd>8000)=false:=by simpa using h4
 have HXX:=q9 (show X=(rs.any (fun r=>decide (60<r.length)) || decide (Z7 t c wd v rs ps≠0)) by rw [<- HX.out];unfold Ko;simp [h1,h2,h3,h4])
 have hrl:rs.length<=10:=by omega
 have HB:=q9 hb
 have HF0:=q9 F0
 clear h1 h2 h3 h4 HX hb F0
 go_enter Tryz.func13,Tryz.ntmps13
 go_wp2_with fail
 generalize hw1:World.alloc w _=w1 at *
 generalize w.heap.size=bs at *
 go_loopw [5] (fun x wr=>WdAt w1 rs x wr) (fun x _=>rs.length - (intOf x).toNat)
 case atStart=>exact ⟨0,Nat.zero_le _,rfl,rfl,by omega⟩
 case round =>
  obtain ⟨n,hn,rfl,rfl,hi⟩:=hrel
  by_cases hlt:n<rs.length
  ·rcases HC.out with hz | ⟨b,off,rfl,hbb,hcell⟩
   ·omega
   have d0:=Zl HF0.out (hcell n hlt)
   obtain ⟨ar,capr,hxe,hlr,-,-⟩:=HR.out n hlt
   rw [hxe] at d0
   have HI2:=q9 (show n+1<=rs.length/\rs.length - (n+1)<rs.length - n by omega)
   have hltz:(n:Int)<(rs.length:Int):=by omega
   clear hcell hxe
   unfold maxLen at hlr
   by_cases hg:60<(J0 rs n).length
   ·have g5:decide (((J0 rs n).length:Int)>60)=true:=by simp;omega
    have e:X=true:=by rw [HXX.out];simp only [Bool.or_eq_true];exact .inl (List.any_eq_true.2 ⟨_,U0 hlt,by simpa using hg⟩)
    clear hg hi
    go_wp2
    go_ret
    exact ⟨by rw [e];rfl,HF0.out⟩
   ·have g5:decide (((J0 rs n).length:Int)>60)=false:=by simp;omega
    have HG:=q9 (qc hg hi)
    clear hg hi
    go_wp2_with fail
    go_roundw
    case rel =>
     refine ⟨n+1,HI2.out.1,by go_num,rfl,fun i hi'=>?_⟩
     by_cases hin:i=n
     ·rw [hin];exact HG.out.1
     ·exact HG.out.2 i (by omega)
    case measure=>exact meas rfl HI2.out.2
  ·obtain rfl:n=rs.length:=by omega
   have hany:rs.any (fun r=>decide (60<r.length))=false:=by
    rw [List.any_eq_false];intro y hy
    obtain ⟨i,hi',rfl⟩:=List.getElem_of_mem hy
    have:=hi i hi'
    unfold J0 at this
    rw [List.getD_eq_getElem?_getD,List.getElem?_eq_getElem hi'] at this
    simpa using this
   have HXY:=q9 (show X=decide (Z7 t c wd v rs ps≠0) by rw [HXX.out,hany];rfl)
   clear hi hany
   go_wp2_with fail
   refine (Ro.Yy t c wd v rs ps ds _ wr (H.out.up HF0.out)).mono ?_;rintro e w2 ⟨rfl,F2⟩
   clear c0 c1 c2 c3 c4 c5 c6
   by_cases hs:Z7 t c wd v rs ps=0
   ·rw [hs]
    have HS:=q9 hs
    clear hs
    go_wp2_with fail
    go_ret
    exact ⟨by rw [HXY.out,HS.out];rfl,HF0.out.trans F2⟩
   ·have g6:(Z7 t c wd v rs ps != 0)=true:=by simpa using hs
    have HS:=q9 hs
    clear hs
    generalize Z7 t c wd v rs ps=sc at *
    go_wp2_with fail
    go_ret
    exact ⟨by rw [HXY.out];simp [HS.out],HF0.out.trans F2⟩
def J3 (l:List Int) (s:St):Nat->St
 | 0=>s
 | n+1=>(J3 l s n).yp n (nth l n)
theorem Y0 (l:List Int) (s:St):∀ n,(J3 l s n).l.length=s.l.length
 | 0=>rfl
 | n+1=>by unfold J3 St.yp;simp only [xa];exact Y0 l s n
theorem Wj (l:List Int) (s:St):∀ n,(J3 l s n).n=s.n/\(J3 l s n).a=s.a
 | 0=>⟨rfl,rfl⟩
 | n+1=>Wj l s n
theorem Sc (l:List Int) (s:St):∀ n,n<=s.l.length->∀ i,nth (J3 l s n).l i=if i<n then nth l i else nth s.l i
 | 0,_,i=>by simp [J3]
 | n+1,h,i=>by
  unfold J3 St.yp
  simp only
  rw [Uj _ (by rw [Y0];omega)]
  have ih:=Sc l s n (by omega) i
  unfold nth at ih ⊢
  rw [List.getD_eq_getElem?_getD]
  by_cases hi:i=n
  ·subst hi
   rw [List.getElem?_set_self (by rw [Y0];omega),qf (by omega)];rfl
  ·rw [List.getElem?_set_ne (fun e=>hi e.symm),<- List.getD_eq_getElem?_getD,ih]
   by_cases h2:i<n
   ·rw [qf h2,qf (by omega)]
   ·rw [qd h2,qd (by omega)]
def q1s (l:List Int):St:=⟨l,0,⟨0,0,0,0,false⟩⟩
theorem q6y (l:List Int):J3 l (St.fresh l.length) l.length=q1s l:=by
 have h1:=Y0 l (St.fresh l.length) l.length
 have h2:=Wj l (St.fresh l.length) l.length
 have h3:=Sc l (St.fresh l.length) l.length (by unfold St.fresh;simp)
 have hl:(St.fresh l.length).l.length=l.length:=by unfold St.fresh;simp
 have e:(J3 l (St.fresh l.length) l.length).l=l:=by
  apply List.ext_getElem?
  intro i
  by_cases hi:i<l.length
  ·have:=h3 i
   rw [qf hi] at this
   unfold nth at this
   rw [List.getD_eq_getElem?_getD,List.getD_eq_getElem?_getD,List.getElem?_eq_getElem (by omega),List.getElem?_eq_getElem hi] at this
   rw [List.getElem?_eq_getElem (by omega),List.getElem?_eq_getElem hi]
   simpa using this
  ·rw [List.getElem?_eq_none (by omega),List.getElem?_eq_none (by omega)]
 generalize J3 l (St.fresh l.length) l.length=u at *
 obtain ⟨ul,un,ua⟩:=u
 unfold St.fresh at h2
 simp only at e h2
 rw [e,h2.1,h2.2];rfl
def AnAt (w:World) (s:St) (p q:Nat) (u:Value) (wr:World):Prop:=∃ i,i<=s.l.length/\u = .int .i64 (i:Nat)/\Ar wr p q (J3 s.l (St.fresh s.l.length) i)
theorem q59 (p q:Nat) (s:St) (w:World) (h:Rar w p q s) :
  Calls Tryz.prog 16 #[.pointer (some ⟨p,0,none⟩)] w (Made w (q1s s.l)):=by
 obtain ⟨cap,hcap,r0,-,-,-,-,-,-,rq⟩:=Vr h
 have hlen:1<=s.l.length/\s.l.length<=20000:=⟨h.lo,h.hi⟩
 go_enter Tryz.func16,Tryz.ntmps16
 go_wp2_with fail
 refine (Ar.q1r s.l.length s.l.length hlen.1 hlen.2 (by omega) w).mono ?_;rintro e w1 ⟨pa,qa,rfl,hpa,hqa,A,F⟩
 have HP:=q9 (qc hpa hqa)
 have HH:=q9 (h.kept F (by simp) (by simp))
 have HA:=q9 A
 have HF:=q9 F
 have hpl:=h.lt
 clear h A F hpa hqa r0 rq
 go_wp2_with fail
 go_loopw [4] (fun u wr=>AnAt w1 s pa qa u wr/\Rar wr p q s/\Fr [] w wr) (fun u _=>s.l.length - (intOf u).toNat)
 case atStart=>exact ⟨⟨0,Nat.zero_le _,rfl,HA.out⟩,HH.out,HF.out⟩
 case round =>
  obtain ⟨⟨i,hi,rfl,A⟩,R,G⟩:=hrel
  obtain ⟨cap2,hcap2,r0,-,-,-,-,-,-,rq⟩:=Vr R
  by_cases hlt:i<s.l.length
  ·have d0:=rq i hlt
   have HI2:=q9 (show i+1<=s.l.length/\s.l.length - (i+1)<s.l.length - i by omega)
   have hltz:(i:Int)<(s.l.length:Int):=by omega
   have HG:=q9 (qc R G)
   clear rq R G hlt
   go_wp2_with fail
   refine (Ar.Qe wr pa qa _ i (nth s.l i) A).mono ?_;rintro e w3 ⟨rfl,A3,F3⟩
   have h1:=HP.out
   have HA3:=q9 (qc A3 (qc (HG.out.1.kept F3 (by simp;omega) (by simp;omega)) (HG.out.2.own F3 (by simp;omega))))
   clear A A3 F3 r0 d0
   go_wp2_with fail
   go_roundw
   case rel=>exact ⟨⟨i+1,HI2.out.1,by simp,HA3.out.1⟩,HA3.out.2.1,HA3.out.2.2⟩
   case measure=>exact meas rfl HI2.out.2
  ·obtain rfl:i=s.l.length:=by omega
   have HA2:=q9 (qc A G)
   clear rq A G R
   go_wp2_with fail
   go_ret
   have hA:=HA2.out.1
   rw [q6y] at hA
   exact ⟨pa,qa,rfl,HP.out.1,HP.out.2,hA,HA2.out.2⟩
end Go.Proofs.YtppajakfaomkaaaGreatDoor.Wd
namespace Go.Proofs.YtppajakfaomkaaaGreatDoor.Mx
open Go.RowKit Ar Vw
theorem wrap_add (a b:Int):wrap64 (wrap64 a+b)=wrap64 (a+b):=by unfold wrap64;omega
theorem Jk {c:Cf} (after:Int):∀ (gs:List (List It)) (at_:Int) (ms:List Int) (i:Nat) (g:List It) (m:Int),wrap64 at_=at_->gs[i]? = some g->ms[i]? = some m ->
  (jq c at_ after gs ms)[i]? = some ⟨wrap64 (at_+za c * (i:Int)),m,(g.length:Int),jv (if i+1=gs.length then after else wrap64 (at_+za c * ((i:Int)+1))) false,g⟩
 | [],_,_,i,g,m,_,hg,_=>by simp at hg
 | a :: r,at_,ms,i,g,m,h0,hg,hm=>by
  unfold jq
  cases i with
  | zero =>
   obtain rfl:a=g:=by simpa using hg
   have hmm:ms.headD 0=m:=by cases ms <;> simp_all
   rw [List.getElem?_cons_zero,hmm]
   congr 2
   ·simp [h0]
   ·congr 1
    by_cases hr:r=[]
    ·subst hr;simp
    rw [qd hr,qd (by rw [List.length_cons];have:=List.length_pos_iff.2 hr;omega)];simp
  | succ i =>
   rw [List.getElem?_cons_succ]
   have hm':ms.tail[i]? = some m:=by cases ms <;> simp_all
   rw [Jk after r (wrap64 (at_+za c)) ms.tail i g m (by unfold wrap64;omega) (by simpa using hg) hm']
   have e1:at_+za c+za c * (i:Int)=at_+za c * ((i+1:Nat):Int):=by rw [Int.natCast_add,Int.mul_add];simp;omega
   have e2:at_+za c+za c * ((i:Int)+1)=at_+za c * (((i+1:Nat):Int)+1):=by rw [Int.natCast_add,Int.mul_add,Int.mul_add,Int.mul_add];simp;omega
   rw [wrap_add,wrap_add,e1,e2,List.length_cons]
   congr 3
   by_cases h:i+1=r.length
   ·rw [qf h,qf (by omega)]
   ·rw [qd h,qd (by omega)]
theorem q85 {at_ i cap:Int} (h2:0<=i) (h3:i<=1000) (h4:0<=cap) (h5:cap<=16):wrap64 (at_+wrap64 (i * (7+3 * cap)))=wrap64 (at_+(7+3 * cap) * i):=by
 have h6:0<=i * (7+3 * cap):=Int.mul_nonneg h2 (by omega)
 have h7:i * (7+3 * cap)<=1000 * (7+3 * cap):=Int.mul_le_mul_of_nonneg_right h3 (by omega)
 rw [w64 (a:=i * (7+3 * cap)) (by omega) (by omega),Int.mul_comm]
def qde (at_ after sz:Int) (ms:List Int) (n:Nat) (i:Nat) (g:List It):Hd:=⟨wrap64 (at_+sz * (i:Int)),ms.getD i 0,(g.length:Int),jv (if i+1=n then after else wrap64 (at_+sz * ((i:Int)+1))) false,0,0,0,0⟩
def U4 (w:World) (cap:Nat) (at_ after sz:Int) (ms:List Int) (gs:List (List It)) (xs:List Chs):Prop:=∀ (i:Nat) (x:Chs) (g:List It),xs[i]? = some x->gs[i]? = some g ->
 x.h=qde at_ after sz ms gs.length i g/\∃ q,x.s=⟨some ⟨q,0,none⟩,cap,cap⟩/\Ob w q 179 ((Yh cap g).flatMap fC).toArray
theorem U4.kept {S:List Nat} {w w':World} {cap:Nat} {at_ after sz:Int} {ms:List Int} {gs:List (List It)} {xs:List Chs} (h:U4 w cap at_ after sz ms gs xs) (f:Fr S w w') (hS:∀ b cs,b∈S->¬ Ob w b 179 cs):U4 w' cap at_ after sz ms gs xs:=fun i x g e1 e2=>by
 obtain ⟨h1,q,h2,h4⟩:=h i x g e1 e2
 exact ⟨h1,q,h2,h4.kept f (fun hq=>hS q _ hq h4)⟩
theorem U4.up {w w':World} {cap:Nat} {at_ after sz:Int} {ms:List Int} {gs:List (List It)} {xs:List Chs} (h:U4 w cap at_ after sz ms gs xs) (f:Fr [] w w'):U4 w' cap at_ after sz ms gs xs:=h.kept f (by simp)
theorem qa8 {w:World} {cap:Nat} {at_ after:Int} {ms:List Int} {gs:List (List It)} {done:List Chs} {c:Cf} (hc:c.c=(cap:Int)) (hcap:cap<=16) (hl:gs.length<=1000) (hd:done.length=gs.length) (hm:ms.length=gs.length)
  (hD:U4 w cap at_ after (7+3 * (cap:Int)) ms gs done):q2q w done (jq c (wrap64 at_) after gs ms) cap:=by
 have hsz:za c=7+3 * (cap:Int):=by unfold za;rw [hc]
 refine ⟨by rw [yn,hd],fun i x n e1 e2=>?_⟩
 have hi:i<gs.length:=by have:=(List.getElem?_eq_some_iff.1 e2).1;rw [yn] at this;exact this
 obtain ⟨g,hg⟩:∃ g,gs[i]? = some g:=⟨gs[i],List.getElem?_eq_getElem _⟩
 obtain ⟨m,hmi⟩:∃ m,ms[i]? = some m:=⟨ms[i]'(by omega),List.getElem?_eq_getElem _⟩
 obtain ⟨d1,q,d2,d4⟩:=hD i x g e1 hg
 have hn:=Jk (c:=c) after gs (wrap64 at_) ms i g m (by unfold wrap64;omega) hg hmi
 rw [wrap_add,wrap_add] at hn
 rw [hn] at e2
 obtain rfl:=qi e2
 refine ⟨?_,?_⟩
 ·rw [d1]
  unfold qde qdf
  rw [List.getD_eq_getElem?_getD,hmi,hsz];rfl
 ·have h5:=d4.sq Z8 (by rw [Qi];omega)
  rw [Qi] at h5
  rw [d2];exact h5
theorem q7p {AT at_ i cap:Int} (hA:AT=wrap64 (at_+(7+3 * cap) * i)):wrap64 (AT+(7+3 * cap))=wrap64 (at_+(7+3 * cap) * (i+1)):=by
 rw [hA,wrap_add,Int.mul_add];congr 1;omega
def Ro9 (w:World) (cap:Nat) (at_ after sz:Int) (ms:List Int) (gs:List (List It)) (u x:Value) (wr:World):Prop:=∃ (i:Nat) (done:List Chs),i<=gs.length/\x = .int .i64 (i:Nat)/\done.length=i /\
 wr.ownsRow w.heap.size 130 9 u done.length (done.flatMap fH)/\U4 wr cap at_ after sz ms gs done/\((gs.all fun g=>decide ((g.length:Int)<=(cap:Int)))=(gs.drop i).all fun g=>decide ((g.length:Int)<=(cap:Int)))/\Fr [] w wr
def Ri9 (w:World) (q:Nat) (ces:List Ce) (n:Nat) (x:Value) (wr:World):Prop:=∃ j:Nat,j<=n/\x = .int .i64 (j:Nat)/\Ob wr q 179 ((Xo ces zCe j).flatMap fC).toArray/\Fr [q] w wr
theorem q74 (c:Int) {gs:List (List It)} {i:Nat} {g:List It} (h:gs[i]? = some g):((gs.drop i).all fun g=>decide ((g.length:Int)<=c))=(decide ((g.length:Int)<=c) && ((gs.drop (i+1)).all fun g=>decide ((g.length:Int)<=c))):=by
 obtain ⟨h1,rfl⟩:=List.getElem?_eq_some_iff.1 h
 rw [List.drop_eq_getElem_cons h1,List.all_cons]
theorem q7n {cap:Nat} {g:List It} (h:g.length<=cap):Xo (Yh cap g) zCe g.length=Yh cap g:=by
 apply List.ext_getElem?
 intro j
 by_cases h1:j<g.length
 ·exact q4v zCe h1 (by rw [Qi];omega)
 ·by_cases h2:j<cap
  ·rw [q68 h2,List.getElem?_eq_none (by omega:g.length<=j)]
   unfold Xo
   rw [List.getElem?_append_right (by rw [List.length_take,Qi];omega),List.getElem?_replicate,qf (by rw [List.length_take,Qi];omega)];rfl
  rw [List.getElem?_eq_none (by rw [q7w _ _ (by rw [Qi];exact h),Qi];omega),List.getElem?_eq_none (by rw [Qi];omega)]
theorem Rn (c:Cf) (cap:Nat) (at_ after least:Int) (gs:List (List It)) (ss:List Sv) (u:Value) (w:World) (hcap:c.c=(cap:Int)) (hc1:1<=cap) (hc16:cap<=16) (hl:gs.length<=1000) (hl2:gs.flatten.length<=1000) (h:Sq fS w u ss) (hg:Gs w ss gs) :
  Calls Tryz.prog 215 #[c.val,.int .i64 at_,.int .i64 after,.int .i64 least,u] w fun e w'=>(∃ r xs,e = .returned r/\w'.ownsRow w.heap.size 130 9 r xs.length (xs.flatMap fH)/\q2q w' xs (ym c (wrap64 at_) after least gs) cap)/\Fr [] w w':=by
 obtain ⟨ct,cc,cwd,cvs⟩:=c
 obtain rfl:cc=(cap:Int):=hcap
 obtain ⟨av,cv,rfl,hcv,hmv,-⟩:=id h
 have hsl:=hg.1
 rw [hsl] at h hcv ⊢
 have HCT:=q9 (show ym ⟨ct,cap,cwd,cvs⟩ (wrap64 at_) after least gs=if (gs.all fun g=>decide ((g.length:Int)<=(cap:Int)))=true then jq ⟨ct,cap,cwd,cvs⟩ (wrap64 at_) after gs (xo least gs) else [] from rfl)
 have F0:=(Fr.refl [] w).alloc (.cells #[.int .i64 ct,.int .i64 (cap:Int),.int .i64 cwd,.int .i64 cvs] 23)
 have oc:=Ob.new w 23 #[.int .i64 ct,.int .i64 (cap:Int),.int .i64 cwd,.int .i64 cvs]
 have HH:=q9 (qc h hg)
 clear h hg hsl
 unfold Cf.val
 go_enter Tryz.func215,Tryz.ntmps215
 go_wp2_with fail
 refine (q8k least gs ss _ _ hl (HH.out.1.up F0) (HH.out.2.up F0)).mono ?_
 rintro e w1 ⟨⟨um,rfl,hm1⟩,F1⟩
 have SM:=Sq.own (f:=fI) hm1
 have FW1:=F0.trans F1
 have oc1:=oc.up F1
 have hms:=Yt least gs
 have HMA:=q9 (fun i g=>@q1z least gs i g)
 generalize hmsd:xo least gs=ms at *
 have HML:=q9 (qc hms hmsd)
 obtain ⟨am,cm,rfl,hcm,hmm,-⟩:=id SM
 generalize hpc:w.heap.size=pc at oc1 ⊢
 have HPC:=q9 hpc
 have HO1:=q9 (qc oc1 (qc SM FW1))
 clear hms hmsd F0 oc F1 hm1 SM FW1 oc1 hpc
 go_wp2_with fail
 go_loopw [12,13] (Ro9 w1 cap at_ after (7+3 * (cap:Int)) ms gs) (fun _ x _=>gs.length - (intOf x).toNat)
 case atStart=>exact ⟨0,[],by omega,rfl,rfl,⟨rfl,.inl ⟨rfl,rfl⟩⟩,fun i x g e1=>by simp at e1,by simp,Fr.refl _ _⟩
 case round =>
  obtain ⟨i,done,hi,rfl,hdl,hr,hD,hall,F⟩:=hrel
  by_cases hlt:i<gs.length
  ·have HI2:=q9 (show i+1<=gs.length/\gs.length - (i+1)<gs.length - i by omega)
   have hltz:(i:Int)<(gs.length:Int):=by omega
   have hi0:(0:Int)<=(i:Int):=by omega
   obtain ⟨g,hgi⟩:∃ g,gs[i]? = some g:=⟨gs[i],List.getElem?_eq_getElem _⟩
   obtain ⟨m,hmi⟩:∃ m,ms[i]? = some m:=⟨_,HMA.out i g hgi⟩
   have FW:=HO1.out.2.2.trans F
   obtain ⟨s,hs1,hs2,-⟩:=(HH.out.2.up FW).one hgi
   obtain ⟨gb,ob,rfl,cc0⟩:=Jv (HH.out.1.up FW) hs1
   rw [hs2] at cc0
   rw [q74 cap hgi] at hall
   obtain ⟨c0,c1,c2,c3⟩:=Pl.yf (HO1.out.1.up F)
   have HAL:=q9 hall
   have HD:=q9 (qc hr (qc hD (qc F hdl)))
   have HGI:=q9 (qc hgi hmi)
   clear hall hr hD F hdl hgi hmi FW
   go_wp2_with fail
   have k0:=qb cc0
   have k1:=qb c1
   refine wiq ?_
   repeat (go_big_quiet_step (fail))
   refine wpQuiet_nil ?_
   intro w2 F2
   clear k0 k1
   by_cases hfit:(cap:Int)<(g.length:Int)
   ·have hall:=HAL.out
    rw [show decide ((g.length:Int)<=(cap:Int))=false by simpa using hfit,Bool.false_and] at hall
    have HAL2:=q9 hall
    clear hall
    go_wp2_with fail
    go_ret
    have hfin:=HCT.out
    rw [HAL2.out] at hfin
    simp only [Bool.false_eq_true,if_false] at hfin
    refine ⟨⟨_,[],rfl,⟨rfl,.inl ⟨rfl,rfl⟩⟩,?_⟩,HO1.out.2.2.trans (HD.out.2.2.1.trans F2)⟩
    rw [hfin];exact ⟨rfl,fun i x n e=>by simp at e⟩
   have hall:=HAL.out
   rw [show decide ((g.length:Int)<=(cap:Int))=true by simpa using hfit,Bool.true_and] at hall
   have HAL2:=q9 hall
   have hgl:g.length<=cap:=by omega
   clear hall c0 c1 c2 c3 cc0
   go_wp2_with fail
   have F12:=HD.out.2.2.1.trans F2
   have HML2:=q9 (show i<ms.length by rw [HML.out.1];exact hlt)
   have hmlz:(i:Int)<(ms.length:Int):=by have:=HML2.out;omega
   obtain ⟨gm,om,eam,cm0⟩:=Zn (HO1.out.2.1.up F12) HGI.out.2
   have HO2:=q9 (qc (HO1.out.1.up F12) (qc cm0 (qc (HH.out.1.up (HO1.out.2.2.trans F12)) (HH.out.2.up (HO1.out.2.2.trans F12)))))
   clear cm0 F12
   subst eam
   refine qo (by kernel_rfl) ?_
   refine z6 [] w2 #[true,true,true,true,true,true,true,true,true,true,true,true,true,true,true,true,true,true,true,true,true,true,false] 22 1 rfl ?_
   refine lpq [true,true,true,true,true,true,true,true,true,true,true,true,true,true,true,true,true,true,true,false,false,false,false] 3 ((Fr.refl _ _).drew) ?_
   apply qg
   refine ⟨fun wf Ff=>?_,?_⟩
   ·obtain ⟨d0,d1,d2,d3⟩:=Pl.yf (HO2.out.1.up Ff)
    have j0:=qb d0
    have j1:=qb d1
    have j2:=qb d2
    have j3:=qb d3
    have jm:=qb (Ff.cell HO2.out.2.1 (by simp))
    obtain ⟨s',e1,e2,-⟩:=HO2.out.2.2.2.one HGI.out.1
    rw [hs1] at e1
    obtain rfl:=qi e1
    obtain ⟨gb',ob',e3,c0⟩:=Jv HO2.out.2.2.1 hs1
    simp only [Option.some.injEq,Addr.mk.injEq] at e3
    obtain ⟨rfl,rfl,-⟩:=e3
    rw [e2] at c0
    have jg:=qb (Ff.cell c0 (by simp))
    clear d0 d1 d2 d3 c0 e2
    simp only [sel]
    repeat (go_big_quiet_step ((first | (go_at_call 98;exact Calls.in_ (Ref.Xl _ _ _ _ (by omega) (by omega) _)) | (go_at_call 121;exact Calls.in_same (Vd _ _ _)))))
    exact wpQuiet_nil rfl
   refine ji [19,21] (by kernel_rfl) (by simp) (fun w6 F6 mm hm o ho=>?_)
   have G:=((Fr.refl [] w2).drew).trans F6
   clear F6
   simp only [List.mem_cons,List.not_mem_nil,or_false] at hm
   rcases hm with rfl | rfl
   focus
    obtain rfl:=qi ho
    clear ho
    go_wp2_with (at_make;refine Tx Z8 rfl _ _ 128 rfl Tryz.underlying128 ceI zCe rfl cap rfl rfl (by omega) (by decide) ?_;intro w7 o7 F7)
    have hq:w.heap.size<=w6.heap.size:=(HO1.out.2.2.trans (HD.out.2.2.1.trans (F2.trans G))).size
    have hq2:wr.heap.size<=w6.heap.size:=(F2.trans G).size
    generalize w6.heap.size=q at *
    replace G:=G.trans F7
    clear F7
    refine ql ⟨G,?_⟩
    refine lpq [false,false,false,false,false,false,false,false,false,false,false,false,false,false,false,false,false,false,false,false,true,false,false] 1 G ?_
    apply qg
    refine ⟨fun wf Ff=>?_,?_⟩
    ·simp only [sel]
     repeat (go_big_quiet_step (fail))
     exact wpQuiet_nil rfl
    refine loq 21 (fun w8 F8=>?_)
    have o8:=o7.up F8
    replace G:=G.trans F8
    clear F8 o7
    go_wp2_with fail
    have F9:=(Fr.refl [] w8).alloc (.cells #[.int .i64 0,.int .i64 0,.int .i64 0,.int .i64 0,.int .i64 0,.int .i64 0,.int .i64 0,.int .i64 0,.slice none 0 0] 130)
    have op:=Ob.new w8 130 #[.int .i64 0,.int .i64 0,.int .i64 0,.int .i64 0,.int .i64 0,.int .i64 0,.int .i64 0,.int .i64 0,.slice none 0 0]
    have oq:=o8.up F9
    replace G:=G.trans F9
    generalize (w8.alloc (.cells #[.int .i64 0,.int .i64 0,.int .i64 0,.int .i64 0,.int .i64 0,.int .i64 0,.int .i64 0,.int .i64 0,.slice none 0 0] 130))=w9 at *
    have hp:wr.heap.size<=w8.heap.size:=by have:=o8.lt;omega
    generalize w8.heap.size=p at *
    clear F9 o8
   rotate_left
   focus
    obtain rfl:=qi ho
    clear ho
    go_wp2_with fail
    have F9:=(Fr.refl [] w6).alloc (.cells #[.int .i64 0,.int .i64 0,.int .i64 0,.int .i64 0,.int .i64 0,.int .i64 0,.int .i64 0,.int .i64 0,.slice none 0 0] 130)
    have op:=Ob.new w6 130 #[.int .i64 0,.int .i64 0,.int .i64 0,.int .i64 0,.int .i64 0,.int .i64 0,.int .i64 0,.int .i64 0,.slice none 0 0]
    have hp:wr.heap.size<=w6.heap.size:=(F2.trans G).size
    replace G:=G.trans F9
    generalize (w6.alloc (.cells #[.int .i64 0,.int .i64 0,.int .i64 0,.int .i64 0,.int .i64 0,.int .i64 0,.int .i64 0,.int .i64 0,.slice none 0 0] 130))=w8 at *
    generalize w6.heap.size=p at *
    clear F9
    refine ql ⟨G,?_⟩
    refine loq 19 (fun w5 F5=>?_)
    replace op:=op.up F5
    replace G:=G.trans F5
    clear F5
    go_wp2_with (at_make;refine Tx Z8 rfl _ _ 128 rfl Tryz.underlying128 ceI zCe rfl cap rfl rfl (by omega) (by decide) ?_;intro w7 o7 F7)
    have hq:w.heap.size<=w5.heap.size:=(HO1.out.2.2.trans (HD.out.2.2.1.trans (F2.trans G))).size
    have hq2:wr.heap.size<=w5.heap.size:=(F2.trans G).size
    generalize w5.heap.size=q at *
    replace G:=G.trans F7
    replace op:=op.up F7
    clear F7
    refine ql ⟨G,?_⟩
    refine loq 20 (fun w9 F8=>?_)
    have oq:=o7.up F8
    replace op:=op.up F8
    replace G:=G.trans F8
    clear F8 o7
    go_wp2_with fail
   rotate_left
   all_goals
    refine ql ⟨G,?_⟩
    refine qx (k:=22) rfl (by kernel_rfl) (fun w10 F10=>?_)
    replace op:=op.up F10
    replace oq:=oq.up F10
    replace G:=G.trans F10
    clear F10
    have HA:=q9 (q85 (at_:=at_) (show (0:Int)<=(i:Int) by omega) (show (i:Int)<=1000 by omega) (show (0:Int)<=(cap:Int) by omega) (show (cap:Int)<=16 by omega))
    generalize wrap64 (at_+wrap64 ((i:Int) * (7+3 * (cap:Int))))=AT at *
    generalize wrap64 ((i:Int) * (7+3 * (cap:Int)))=A0 at *
    have q0:w10.cell? ⟨p,0,none⟩=some (.int .i64 0):=op.cell rfl
    have q1:w10.cell? ⟨p,1,none⟩=some (.int .i64 0):=op.cell rfl
    have q2:w10.cell? ⟨p,2,none⟩=some (.int .i64 0):=op.cell rfl
    have q3:w10.cell? ⟨p,3,none⟩=some (.int .i64 0):=op.cell rfl
    have q4:w10.cell? ⟨p,4,none⟩=some (.int .i64 0):=op.cell rfl
    have q5:w10.cell? ⟨p,5,none⟩=some (.int .i64 0):=op.cell rfl
    have q6:w10.cell? ⟨p,6,none⟩=some (.int .i64 0):=op.cell rfl
    have q7:w10.cell? ⟨p,7,none⟩=some (.int .i64 0):=op.cell rfl
    have q8:w10.cell? ⟨p,8,none⟩=some (.slice none 0 0):=op.cell rfl
    have zf:=op.frozen
    have op1:Ob w10 p 130 (([zCh]:List Chs).flatMap fH).toArray:=op
    have S9:=qa1 op1 (i:=0) rfl ⟨⟨AT,m,g.length,jv after false,0,0,0,0⟩,⟨some ⟨q,0,none⟩,cap,cap⟩⟩
    simp only [Nat.zero_mul,Nat.zero_add,List.set_cons_zero] at S9
    unfold Sv.v at S9
    have HPQ:=q9 (show p≠q from op.ne oq (by decide))
    have HS9:=q9 S9
    have FS:=fr9 (w:=w10) (b:=p) 0 1 2 3 4 5 6 7 8 (.int .i64 AT) (.int .i64 m) (.int .i64 g.length) (.int .i64 (jv after false)) (.int .i64 0) (.int .i64 0) (.int .i64 0) (.int .i64 0) (.slice (some ⟨q,0,none⟩) cap cap)
    have HQ:=q9 (qc (oq.kept FS (by simpa using HPQ.out.symm)) (qc ((F2.trans G).own FS (by simp;omega)) (qc hq (qc hp hq2))))
    clear S9 op1 op oq G FS hq hp hq2
    by_cases hlast:i+1<gs.length
    focus
     have hlz:(i:Int)+1<(gs.length:Int):=by omega
     have HNX:=q9 (show jv (wrap64 (AT+(7+3 * (cap:Int)))) false=jv (if i+1=gs.length then after else wrap64 (at_+(7+3 * (cap:Int)) * ((i:Int)+1))) false by rw [qd (by omega),q7p HA.out])
     clear hlast
     go_wp2_with fail
     generalize hwt:(((((((((w10.setCell ⟨p,0,none⟩ (.int .i64 AT)).setCell ⟨p,1,none⟩ (.int .i64 m)).setCell ⟨p,2,none⟩ (.int .i64 g.length)).setCell ⟨p,3,none⟩ (.int .i64 (jv after false))).setCell ⟨p,4,none⟩ (.int .i64 0)).setCell ⟨p,5,none⟩ (.int .i64 0)).setCell ⟨p,6,none⟩ (.int .i64 0)).setCell ⟨p,7,none⟩ (.int .i64 0)).setCell ⟨p,8,none⟩ (.slice (some ⟨q,0,none⟩) cap cap))=w11 at *
     clear hwt q0 q1 q2 q3 q4 q5 q6 q7 q8 zf
     refine qo (by kernel_rfl) ?_
     refine z6 [] w11 #[true,true,true,true,true,true,false,false] 6 2 rfl ?_
     refine lpq [true,true,true,true,true,true,false,false] 0 ((Fr.refl _ _).drew) ?_
     apply qg
     refine ⟨fun wf Ff=>?_,?_⟩
     ·obtain ⟨d0,d1,d2,d3⟩:=Pl.yf ((HO1.out.1.up (HD.out.2.2.1.trans HQ.out.2.1)).up Ff)
      have j0:=qb d0
      have j1:=qb d1
      have j2:=qb d2
      have j3:=qb d3
      have jp:=qb (Ff.cell (show w11.cell? ⟨p,0,none⟩=some (.int .i64 AT) from HS9.out.cell rfl) (by simp))
      clear d0 d1 d2 d3
      simp only [sel]
      repeat (go_big_quiet_step ((first | (go_at_call 98;exact Calls.in_ (Ref.Xl _ _ _ _ (by omega) (by omega) _)) | (go_at_call 121;exact Calls.in_same (Vd _ _ _)))))
      exact wpQuiet_nil rfl
     refine qx (k:=6) rfl (by kernel_rfl) (fun w5 F5=>?_)
     have G:=((Fr.refl [] w11).drew).trans F5
     generalize wrap64 (AT+(7+3 * (cap:Int)))=AN at *
     generalize jv AN false=NX at *
     have o5:=HS9.out.up G
     have q3:w5.cell? ⟨p,3,none⟩=some (.int .i64 (jv after false)):=o5.cell rfl
     have zf:=o5.frozen
     have o6:=o5.seg Qa (xs:=[⟨⟨AT,m,g.length,jv after false,0,0,0,0⟩,⟨some ⟨q,0,none⟩,cap,cap⟩⟩]) (i:=0) (j:=3) (x':=⟨⟨AT,m,g.length,NX,0,0,0,0⟩,⟨some ⟨q,0,none⟩,cap,cap⟩⟩) (u:=.int .i64 NX) rfl (by decide) rfl
     simp only [Nat.zero_mul,Nat.zero_add,List.set_cons_zero] at o6
     have FS:Fr [p] w5 (w5.setCell ⟨p,3,none⟩ (.int .i64 NX)):=Fr.setCell _ (List.mem_singleton.2 rfl)
     have HX:=q9 (qc o6 (qc ((HQ.out.1.up G).kept FS (by simpa using HPQ.out.symm)) (((HQ.out.2.1).trans G).own FS (by have:=HQ.out.2.2.2.1;simp;omega))))
     clear F5 G o5 o6 FS
     go_wp2_with fail
     generalize (w5.setCell ⟨p,3,none⟩ (.int .i64 NX))=w12 at *
     clear q3 zf
    rotate_left
    focus
     have hlz:¬ (i:Int)+1<(gs.length:Int):=by omega
     have HNX:=q9 (show jv after false=jv (if i+1=gs.length then after else wrap64 (at_+(7+3 * (cap:Int)) * ((i:Int)+1))) false by rw [qf (by omega)])
     clear hlast
     go_wp2_with fail
     generalize hwt:(((((((((w10.setCell ⟨p,0,none⟩ (.int .i64 AT)).setCell ⟨p,1,none⟩ (.int .i64 m)).setCell ⟨p,2,none⟩ (.int .i64 g.length)).setCell ⟨p,3,none⟩ (.int .i64 (jv after false))).setCell ⟨p,4,none⟩ (.int .i64 0)).setCell ⟨p,5,none⟩ (.int .i64 0)).setCell ⟨p,6,none⟩ (.int .i64 0)).setCell ⟨p,7,none⟩ (.int .i64 0)).setCell ⟨p,8,none⟩ (.slice (some ⟨q,0,none⟩) cap cap))=w11 at *
     clear hwt q0 q1 q2 q3 q4 q5 q6 q7 q8 zf
     generalize jv after false=NX at *
     have HX:=q9 (qc HS9.out (qc HQ.out.1 HQ.out.2.1))
     generalize w11=w12 at *
    rotate_left
    all_goals
     generalize wr=wo at *
     have hqw:=HQ.out.2.2.1
     have hgl0:=hgl
     have hqr:=HQ.out.2.2.2.2
     have HIN:=q9 (fun (W:World) (Fj:Fr [q] w12 W)=>(show Fr [] wo W from HX.out.2.2.own Fj (by simp;omega)))
     go_loopw [15] (Ri9 w12 q (Yh cap g) g.length) (fun x _=>g.length - (intOf x).toNat)
     case atStart=>exact ⟨0,by omega,rfl,by rw [q6f,Qi];exact HX.out.2.1,Fr.refl _ _⟩
     case round =>
      obtain ⟨j,hj,rfl,oj,Fj⟩:=hrel
      have Fwj:=HO1.out.2.2.trans (HD.out.2.2.1.trans (HIN.out _ Fj))
      obtain ⟨s',e1,e2,e3⟩:=(HH.out.2.up Fwj).one HGI.out.1
      rw [hs1] at e1
      obtain rfl:=qi e1
      obtain ⟨gb',ob',e4,c0⟩:=Jv (HH.out.1.up Fwj) hs1
      simp only [Option.some.injEq,Addr.mk.injEq] at e4
      obtain ⟨rfl,rfl,-⟩:=e4
      rw [e2] at c0
      have e5:Sq fT wr (.slice s.a g.length s.c) g:=by rw [<- e2];exact e3
      have HFJ:=q9 (qc oj (qc Fj Fwj))
      clear oj Fj Fwj e2 e3
      by_cases hjl:j<g.length
      ·have HJ2:=q9 (show j+1<=g.length/\g.length - (j+1)<g.length - j by omega)
       have hjlz:(j:Int)<(g.length:Int):=by omega
       have hj0:(0:Int)<=(j:Int):=by omega
       obtain ⟨x,hx⟩:∃ x,g[j]? = some x:=⟨g[j],List.getElem?_eq_getElem _⟩
       obtain ⟨gx,ox,ex,x0,x1,x2⟩:=xk e5 hx
       have F5:=(Fr.refl [] wr).alloc (.cells #[.int .i64 x.k,.int .i64 x.v,.int .i64 x.d] 99)
       have HO5:=q9 (qc (Ob.new wr 99 #[.int .i64 x.k,.int .i64 x.v,.int .i64 x.d]) (qc (HFJ.out.1.up F5) (qc (HFJ.out.2.1.then F5) (Fr.cell F5 (HFJ.out.2.1.cell (show w12.cell? ⟨p,8,none⟩=some (.slice (some ⟨q,0,none⟩) cap cap) from HX.out.1.cell rfl) (by simpa using HPQ.out)) (by simp)))))
       have HCJ:=q9 (show (Yh cap g)[j]? = some ⟨vq x.v,x.k,x.d⟩ by rw [q68 (by omega),hx];rfl)
       have HCL:=q9 (show j<(Yh cap g).length by rw [Qi];omega)
       have hjc:(j:Int)<(cap:Int):=by omega
       clear F5 hx e5
       rw [ex] at c0
       go_wp2_with fail
       generalize (wr.alloc (.cells #[.int .i64 x.k,.int .i64 x.v,.int .i64 x.d] 99))=w13 at *
       generalize wr.heap.size=pi at *
       clear c0 x0 x1 x2
       refine qo (by kernel_rfl) ?_
       refine z6 [] w13 #[true,true,true,true,true,true,true,true,true,true,true,false,false] 11 2 rfl ?_
       refine lpq [true,true,true,true,true,true,true,true,true,true,true,false,false] 0 ((Fr.refl _ _).drew) ?_
       apply qg
       refine ⟨fun wf Ff=>?_,?_⟩
       ·have of:=HO5.out.1.up Ff
        have j0:=qb (of.cell (i:=0) rfl)
        have j1:=qb (of.cell (i:=1) rfl)
        have j2:=qb (of.cell (i:=2) rfl)
        have j8:=qb (Ff.cell HO5.out.2.2.2 (by simp))
        clear of
        simp only [sel]
        repeat (go_big_quiet_step ((go_at_call 55;exact Calls.in_same (X8 _ _))))
        exact wpQuiet_nil rfl
       refine qx (k:=11) rfl (by kernel_rfl) (fun w14 F14=>?_)
       have G14:=((Fr.refl [] w13).drew).trans F14
       have o14:=HO5.out.2.1.up G14
       have hz:=qbt (ms:=Yh cap g) zCe (i:=j) HCL.out
       have q0:w14.cell? ⟨q,j * 3,none⟩=some (.int .i64 0):=o14.segCell Z8 (i:=j) (j:=0) hz rfl
       have q1:w14.cell? ⟨q,j * 3+1,none⟩=some (.int .i64 0):=o14.segCell Z8 (i:=j) (j:=1) hz rfl
       have q2:w14.cell? ⟨q,j * 3+2,none⟩=some (.int .i64 0):=o14.segCell Z8 (i:=j) (j:=2) hz rfl
       have zf:=o14.frozen
       generalize vq x.v=sw at *
       have HR:=q9 (qc (show Ob _ q 179 ((Xo (Yh cap g) zCe (j+1)).flatMap fC).toArray by rw [<- q8f zCe HCJ.out];exact qbq o14 hz ⟨sw,x.k,x.d⟩) (show Fr [q] w12 _ from (HO5.out.2.2.1.then G14).trans (fr3c (w:=w14) (b:=q) (j * 3) (j * 3+1) (j * 3+2) (.int .i64 sw) (.int .i64 x.k) (.int .i64 x.d))))
       clear F14 G14 o14 hz
       go_wp2_with fail
       go_roundw
       case rel=>exact ⟨j+1,HJ2.out.1,by simp,HR.out.1,HR.out.2⟩
       case measure=>exact meas rfl HJ2.out.2
      ·have hjlz:¬ (j:Int)<(g.length:Int):=by omega
       obtain rfl:j=g.length:=by omega
       rw [q7n hgl0] at HFJ
       have hfj:=HIN.out _ HFJ.out.2.1
       have op:=HX.out.1.kept HFJ.out.2.1 (by simpa using HPQ.out)
       have p0:wr.cell? ⟨p,0,none⟩=some (.int .i64 AT):=op.cell rfl
       have p1:wr.cell? ⟨p,1,none⟩=some (.int .i64 m):=op.cell rfl
       have p2:wr.cell? ⟨p,2,none⟩=some (.int .i64 g.length):=op.cell rfl
       have p3:wr.cell? ⟨p,3,none⟩=some (.int .i64 NX):=op.cell rfl
       have p4:wr.cell? ⟨p,4,none⟩=some (.int .i64 0):=op.cell rfl
       have p5:wr.cell? ⟨p,5,none⟩=some (.int .i64 0):=op.cell rfl
       have p6:wr.cell? ⟨p,6,none⟩=some (.int .i64 0):=op.cell rfl
       have p7:wr.cell? ⟨p,7,none⟩=some (.int .i64 0):=op.cell rfl
       have p8:wr.cell? ⟨p,8,none⟩=some (.slice (some ⟨q,0,none⟩) cap cap):=op.cell rfl
       have F5:=(Fr.refl [] wr).alloc (.cells #[.int .i64 AT,.int .i64 m,.int .i64 g.length,.int .i64 NX,.int .i64 0,.int .i64 0,.int .i64 0,.int .i64 0,.slice (some ⟨q,0,none⟩) cap cap] 130)
       have B5:=Go.heap_alloc_new wr (.cells #[.int .i64 AT,.int .i64 m,.int .i64 g.length,.int .i64 NX,.int .i64 0,.int .i64 0,.int .i64 0,.int .i64 0,.slice (some ⟨q,0,none⟩) cap cap] 130)
       have r5:=qm (qm HD.out.1 hfj) F5
       have HD5:=q9 (qc ((HD.out.2.1.up hfj).up F5) (qc ((HD.out.2.2.1.trans hfj).trans F5) (qc (HFJ.out.1.up F5) HD.out.2.2.2)))
       have HDL:=q9 (show done.length<=1000 by have:=HD.out.2.2.2;omega)
       generalize hx9:(⟨⟨AT,m,g.length,NX,0,0,0,0⟩,⟨some ⟨q,0,none⟩,cap,cap⟩⟩:Chs)=x9
       have hf9:([x9]:List Chs).flatMap fH=[.int .i64 AT,.int .i64 m,.int .i64 g.length,.int .i64 NX,.int .i64 0,.int .i64 0,.int .i64 0,.int .i64 0,.slice (some ⟨q,0,none⟩) cap cap]:=by rw [<- hx9];rfl
       have HX9:=q9 hx9
       clear hx9 op hfj F5 e5
       go_wp2_with (at_builtin;go_loud (refine qp Qa rfl _ _ 263 rfl Tryz.underlying263 chI rfl (B:=w1.heap.size) u12 done rfl r5 _ [x9] rfl (Sq.block B5 hf9 rfl (Nat.le_refl _) (by simp [maxLen])) (by have:=HDL.out;simp;omega) (by decide) HD5.out.2.1.size ?_;intro a6 c6 w6 r6 f6;generalize hT:done++[x9]=T at r6 ⊢))
       have hra:=HD5.out.1.kept f6 (fun b cs hb ho=>jd r5 ho (by decide) hb)
       have hoq:=HD5.out.2.2.1.kept f6 (fun hb=>jd r5 HD5.out.2.2.1 (by decide) hb)
       have hfw:=HD5.out.2.1.own f6 (z8 r5)
       have hdn:U4 w6 cap at_ after (7+3 * (cap:Int)) ms gs T:=by
        rw [<- hT]
        intro i2 x2 g2 k1 k2
        by_cases hid:i2<done.length
        ·rw [List.getElem?_append_left hid] at k1
         exact hra i2 x2 g2 k1 k2
        ·have hie:i2=done.length:=by have:=(List.getElem?_eq_some_iff.1 k1).1;simp at this;omega
         subst hie
         rw [List.getElem?_append_right (Nat.le_refl _),Nat.sub_self] at k1
         obtain rfl:=qi k1
         rw [HD5.out.2.2.2,HGI.out.1] at k2
         obtain rfl:=qi k2
         rw [<- HX9.out]
         refine ⟨?_,q,rfl,hoq⟩
         unfold qde
         rw [HD5.out.2.2.2,<- HA.out,<- HNX.out,List.getD_eq_getElem?_getD,HGI.out.2];rfl
       have HR:=q9 (qc r6 (qc hdn (qc hfw (show T.length=i+1 by rw [<- hT];simp;exact HD5.out.2.2.2))))
       clear hra hoq hfw hdn r6 f6 r5 B5 hT hf9
       go_wp2_with fail
       go_roundw
       case rel=>exact ⟨i+1,T,HI2.out.1,by simp,HR.out.2.2.2,HR.out.1,HR.out.2.1,HAL2.out,HR.out.2.2.1⟩
       case measure=>exact meas rfl HI2.out.2
  ·obtain rfl:i=gs.length:=by omega
   rw [List.drop_length] at hall
   have HR:=q9 (qc hr (qc hD (qc hall (qc F hdl))))
   clear hr hD hall F hdl
   go_wp2_with fail
   go_ret
   have hfin:=HCT.out
   rw [HR.out.2.2.1] at hfin
   simp only [List.all_nil,if_true] at hfin
   refine ⟨⟨_,done,rfl,Z5 HR.out.1 HO1.out.2.2.size,?_⟩,HO1.out.2.2.trans HR.out.2.2.2.1⟩
   rw [hfin]
   exact qa8 rfl hc16 hl HR.out.2.2.2.2 HML.out.1 HR.out.2.1
def fQ (x:Int×Int):List Value:=[.int .i64 x.1,.int .i64 x.2]
theorem Ub:Lays fQ 2:=⟨fun _=>rfl,fun x u hu=>by simp [fQ] at hu;rcases hu with rfl | rfl <;> rfl,by decide⟩
theorem woI:(Tryz.prog.info? 266).map (fun i=>(i.zero,i.size,i.bytes))=some (some (.agg #[.int .i64 0,.int .i64 0]),2,16):=by kernel_rfl
theorem q0w (n:Nk) {cap:Nat} (h:n.its.length<=cap):(Z9 n).length<=3+3 * cap:=by unfold Z9;simp only [List.length_cons,Xy];omega
theorem Yq {cap:Nat}:∀ ns:List Nk,(∀ n,n∈ns->n.its.length<=cap)->(yz ns).length<=(3+3 * cap) * ns.length
 | [],_=>by simp [yz]
 | n :: r,h=>by
  have h1:=Yq r (fun m hm=>h m (by simp [hm]))
  have h2:=q0w n (h n (by simp))
  unfold yz at h1 ⊢
  rw [List.flatMap_cons,List.length_append,List.length_cons,Nat.mul_add];omega
theorem q1g {w:World} {a:Option Addr} {n cap i:Nat} {xs:List Chs} {x:Chs} (h:Sq fH w (.slice a n cap) xs) (hi:xs[i]? = some x) :
  ∃ g off,a=some ⟨g,off,none⟩/\w.cell? ⟨g,off+i * 9,none⟩=some (.int .i64 x.h.at_)/\w.cell? ⟨g,off+i * 9+1,none⟩=some (.int .i64 x.h.mn)/\w.cell? ⟨g,off+i * 9+2,none⟩=some (.int .i64 x.h.ct)/\w.cell? ⟨g,off+i * 9+3,none⟩=some (.int .i64 x.h.nx)/\w.cell? ⟨g,off+i * 9+4,none⟩=some (.int .i64 x.h.ld)/\w.cell? ⟨g,off+i * 9+5,none⟩=some (.int .i64 x.h.mt)/\w.cell? ⟨g,off+i * 9+6,none⟩=some (.int .i64 x.h.rp)/\w.cell? ⟨g,off+i * 9+7,none⟩=some (.int .i64 x.h.st)/\w.cell? ⟨g,off+i * 9+8,none⟩=some x.s.v:=by
 obtain ⟨-,g,off,rfl,hc⟩:=Sq.cell Qa h hi
 exact ⟨g,off,rfl,hc 0 _ rfl,hc 1 _ rfl,hc 2 _ rfl,hc 3 _ rfl,hc 4 _ rfl,hc 5 _ rfl,hc 6 _ rfl,hc 7 _ rfl,hc 8 _ rfl⟩
theorem q6u {α:Type} {l:List α} {k:Nat} {y:α} (h:l[k]? = some y):l.take (k+1)=l.take k++[y]:=by rw [List.take_add_one,h];rfl
def RwO (w:World) (ns:List Nk) (u x:Value) (wr:World):Prop:=∃ i,i<=ns.length/\x = .int .i64 (i:Nat)/\wr.ownsRow w.heap.size 266 2 u (yz (ns.take i)).length ((yz (ns.take i)).flatMap fQ)/\Fr [] w wr
def RwI (w:World) (cap:Nat) (q:Nat) (cs:Array Value) (pre:List (Int×Int)) (at_:Int) (its:List It) (u x:Value) (wr:World):Prop:=∃ k,k<=cap/\x = .int .i64 (k:Nat)/\wr.ownsRow w.heap.size 266 2 u (pre++yl at_ 0 (its.take k)).length ((pre++yl at_ 0 (its.take k)).flatMap fQ)/\Ob wr q 130 cs/\Fr [] w wr
theorem q53 (cap:Nat) (ns:List Nk) (xs:List Chs) (v:Value) (w:World) (hcap:cap<=16) (hl:ns.length<=1000) (hits:∀ n,n∈ns->n.its.length<=cap) (h:Sq fH w v xs) (hx:q2q w xs ns cap) :
  Calls Tryz.prog 216 #[v] w fun e w'=>(∃ u,e = .returned u/\w'.ownsRow w.heap.size 266 2 u (yz ns).length ((yz ns).flatMap fQ))/\Fr [] w w':=by
 obtain ⟨a,cp,rfl,hcp,hmax,-⟩:=id h
 rw [hx.1] at h hcp ⊢
 have HS:=q9 (qc h (qc hx hits))
 clear h hx hits
 go_enter Tryz.func216,Tryz.ntmps216
 go_wp2_with fail
 go_loopw [3,4] (RwO w ns) (fun _ x _=>ns.length - (intOf x).toNat)
 case atStart=>exact ⟨0,by omega,rfl,⟨rfl,.inl ⟨rfl,rfl⟩⟩,Fr.refl _ _⟩
 case round =>
  obtain ⟨i,hi,rfl,hr,F⟩:=hrel
  by_cases hlt:i<ns.length
  ·have HI2:=q9 (show i+1<=ns.length/\ns.length - (i+1)<ns.length - i by omega)
   have hltz:(i:Int)<(ns.length:Int):=by omega
   have hi0:(0:Int)<=(i:Int):=by omega
   obtain ⟨n,hn⟩:∃ n,ns[i]? = some n:=⟨ns[i],List.getElem?_eq_getElem _⟩
   obtain ⟨x,hxi⟩:∃ x,xs[i]? = some x:=⟨xs[i]'(by rw [HS.out.2.1.1];exact hlt),List.getElem?_eq_getElem _⟩
   obtain ⟨e1,hsq⟩:=HS.out.2.1.2 i x n hxi hn
   have HIT:=q9 (HS.out.2.2 n (List.mem_of_getElem? hn))
   have HSQ0:=hsq
   obtain ⟨g,off,rfl,c0,c1,c2,c3,c4,c5,c6,c7,c8⟩:=q1g (HS.out.1.up F) hxi
   obtain ⟨⟨at_,mn,ct,nx,ld,mt,rp,st⟩,⟨sa,sn,sc⟩⟩:=x
   obtain ⟨nat,nmn,nct,nnx,its⟩:=n
   unfold qdf at e1
   simp only [Hd.mk.injEq] at e1
   simp only at hsq c0 c1 c2 c3 c4 c5 c6 c7 c8 HIT
   obtain ⟨rfl,rfl,rfl,rfl,rfl,rfl,rfl,rfl⟩:=e1
   unfold Sv.v at c8 hsq
   simp only at c8 hsq
   obtain ⟨sa',sc',e2,hsc,hsm,-⟩:=id hsq
   rw [Qi] at e2 hsc
   simp only [Value.slice.injEq] at e2
   obtain ⟨rfl,rfl,rfl⟩:=e2
   have HWT:=q9 (q0a hn)
   have HSQ:=q9 HSQ0
   clear HSQ0
   have F1:=(Fr.refl [] wr).alloc (.cells #[.int .i64 at_,.int .i64 mn,.int .i64 ct,.int .i64 nx,.int .i64 0,.int .i64 0,.int .i64 0,.int .i64 0,.slice sa sn sc] 130)
   have o1:=Ob.new wr 130 #[.int .i64 at_,.int .i64 mn,.int .i64 ct,.int .i64 nx,.int .i64 0,.int .i64 0,.int .i64 0,.int .i64 0,.slice sa sn sc]
   have r1:=qm hr F1
   have hs1:=(hsq.up F).up F1
   have FW:=F.trans F1
   have HLN:=q9 (show (yz (ns.take i)).length<=60000 by
    have h1:=Yq (ns.take i) (fun m hm=>HS.out.2.2 m (List.mem_of_mem_take hm))
    have h2:(ns.take i).length<=1000:=by rw [List.length_take];omega
    have h3:(3+3 * sn) * (ns.take i).length<=51 * 1000:=Nat.mul_le_mul (by omega) h2
    omega)
   generalize yz (ns.take i)=pre at *
   clear F hn hxi hsq
   have hz9:(wr.alloc (.cells #[.int .i64 at_,.int .i64 mn,.int .i64 ct,.int .i64 nx,.int .i64 0,.int .i64 0,.int .i64 0,.int .i64 0,.slice sa sn sc] 130)).heap.size=wr.heap.size+1:=Vg _ _
   have F2:=(Fr.refl [] (wr.alloc (.cells #[.int .i64 at_,.int .i64 mn,.int .i64 ct,.int .i64 nx,.int .i64 0,.int .i64 0,.int .i64 0,.int .i64 0,.slice sa sn sc] 130))).alloc (.cells #[.int .i64 (wrap64 at_),.int .i64 mn,.int .i64 (wrap64 (at_+1)),.int .i64 ct,.int .i64 (wrap64 (at_+2)),.int .i64 nx] 266)
   have B2:=Go.heap_alloc_new (wr.alloc (.cells #[.int .i64 at_,.int .i64 mn,.int .i64 ct,.int .i64 nx,.int .i64 0,.int .i64 0,.int .i64 0,.int .i64 0,.slice sa sn sc] 130)) (.cells #[.int .i64 (wrap64 at_),.int .i64 mn,.int .i64 (wrap64 (at_+1)),.int .i64 ct,.int .i64 (wrap64 (at_+2)),.int .i64 nx] 266)
   rw [hz9] at B2
   have HR2:=q9 (qc (qm r1 F2) (qc (o1.up F2) (qc (hs1.up F2) (FW.trans F2))))
   have HB2:=q9 B2
   obtain ⟨ap,cp2,rfl,hcp2,hmp2,-⟩:=id (Sq.own (f:=fQ) hr)
   clear r1 o1 hs1 FW F1 F2 B2 hz9 hr
   go_wp2_with (at_builtin;go_loud (refine qp Ub rfl _ _ 240 rfl Tryz.underlying240 woI rfl (B:=w.heap.size) _ pre rfl HR2.out.1 _ [(wrap64 at_,mn),(wrap64 (at_+1),ct),(wrap64 (at_+2),nx)] rfl (Sq.block HB2.out rfl rfl (Nat.le_refl _) (by simp [maxLen])) (by have:=HLN.out;simp <;> omega) (by decide) HR2.out.2.2.2.size ?_);intro a7 k7 w7 r7 F7;generalize hT:pre++[(wrap64 at_,mn),(wrap64 (at_+1),ct),(wrap64 (at_+2),nx)]=T at r7 ⊢)
   have G7:Fr [] w w7:=HR2.out.2.2.2.own F7 (z8 HR2.out.1)
   have o7:=Ob.kept HR2.out.2.1 F7 (jd HR2.out.1 HR2.out.2.1 (by decide))
   have HLT:=q9 (show T.length<=60003 by rw [<- hT];simp;exact HLN.out)
   have HT:=q9 hT
   generalize wr.heap.size=q at *
   have H7:=q9 (qc o7 (qc G7 (HSQ.out.up G7)))
   clear HR2 HB2 F7 G7 o7 hT c0 c1 c2 c3 c4 c5 c6 c7 c8
   generalize wr=wo at *
   go_loopw [3,6] (RwI w sn q #[.int .i64 at_,.int .i64 mn,.int .i64 ct,.int .i64 nx,.int .i64 0,.int .i64 0,.int .i64 0,.int .i64 0,.slice sa sn sc] T at_ its) (fun _ x _=>sn - (intOf x).toNat)
   case atStart=>exact ⟨0,by omega,rfl,by rw [List.take_zero];unfold yl;rw [List.append_nil];exact r7,H7.out.1,H7.out.2.1⟩
   case round =>
    clear r7
    obtain ⟨k,hk,rfl,hr,ok,Fk⟩:=hrel
    have b8:wr.cell? ⟨q,8,none⟩=some (.slice sa sn sc):=ok.cell rfl
    have b0:wr.cell? ⟨q,0,none⟩=some (.int .i64 at_):=ok.cell rfl
    have hqn:q<wr.heap.size:=Ob.lt ok
    have hqe:¬ q=wr.heap.size:=by omega
    by_cases hkl:k<sn
    ·have HK2:=q9 (show k+1<=sn/\sn - (k+1)<sn - k by omega)
     have hklz:(k:Int)<(sn:Int):=by omega
     have hk0:(0:Int)<=(k:Int):=by omega
     have hx9:=q68 (cap:=sn) (g:=its) hkl
     have hs9:=HSQ.out.up Fk
     by_cases hil:k<its.length
     ·obtain ⟨y,hy⟩:∃ y,its[k]? = some y:=⟨its[k],List.getElem?_eq_getElem _⟩
      rw [hy] at hx9
      obtain ⟨g2,off2,rfl,d0,d1,d2⟩:=q1q hs9 hx9
      unfold ceO at d0 d1 d2
      simp only at d0 d1 d2
      have hne:∀ W,(binOp .neq 179 (.agg #[.int .i64 (vq y.v),.int .i64 y.k,.int .i64 y.d]) (.agg #[.int .i64 0,.int .i64 0,.int .i64 0])).run Tryz.prog W = .ok (.bool true) W:=fun W=>by
       have h:=q9w ⟨vq y.v,y.k,y.d⟩ ⟨0,0,0⟩ W
       rw [show (decide ((⟨vq y.v,y.k,y.d⟩:Ce)≠⟨0,0,0⟩))=true from decide_eq_true (by intro h;have h1:=congrArg Ce.s h;simp only at h1;have:=Y4 y.v;omega)] at h
       exact h
      have HY:=q9 (show yl at_ 0 (its.take (k+1))=yl at_ 0 (its.take k)++[(Qg at_ (k:Int),vq y.v),(wrap64 (Qg at_ (k:Int)+1),y.k),(wrap64 (Qg at_ (k:Int)+2),y.d)] by
       rw [q6u hy,Yx,Nat.zero_add,show (its.take k).length=k by rw [List.length_take];omega])
      have HLI:=q9 (show (T++yl at_ 0 (its.take k)).length<=60100 by
       have h1:=Xy at_ (its.take k) 0
       have h2:(its.take k).length<=16:=by rw [List.length_take];omega
       have:=HLT.out
       rw [List.length_append];omega)
      generalize hT2:T++yl at_ 0 (its.take k)=T2 at *
      have HT2:=q9 hT2
      generalize vq y.v=sw at *
      have F1:=(Fr.refl [] wr).alloc (.cells #[.int .i64 sw,.int .i64 y.k,.int .i64 y.d] 179)
      have F2:=(Fr.refl [] (wr.alloc (.cells #[.int .i64 sw,.int .i64 y.k,.int .i64 y.d] 179))).alloc (.cells #[.int .i64 (Qg at_ (k:Int)),.int .i64 sw,.int .i64 (wrap64 (Qg at_ (k:Int)+1)),.int .i64 y.k,.int .i64 (wrap64 (Qg at_ (k:Int)+2)),.int .i64 y.d] 266)
      have B2:=Go.heap_alloc_new (wr.alloc (.cells #[.int .i64 sw,.int .i64 y.k,.int .i64 y.d] 179)) (.cells #[.int .i64 (Qg at_ (k:Int)),.int .i64 sw,.int .i64 (wrap64 (Qg at_ (k:Int)+1)),.int .i64 y.k,.int .i64 (wrap64 (Qg at_ (k:Int)+2)),.int .i64 y.d] 266)
      rw [Vg] at B2
      have HR9:=q9 (qc (qm (qm hr F1) F2) (qc (Fk.trans (F1.trans F2)) (qc B2 (ok.up (F1.trans F2)))))
      obtain ⟨ap2,cp3,rfl,hcp3,hmp3,-⟩:=id (Sq.own (f:=fQ) hr)
      clear hr F1 F2 B2 hs9 hx9 hT2 Fk hy ok
      go_wp2_with (first | (go_at_call 54;refine (xy _ _ _).mono ?_;rintro e _ ⟨rfl,rfl⟩) | (at_builtin;go_loud (refine qp Ub rfl _ _ 240 rfl Tryz.underlying240 woI rfl (B:=w.heap.size) _ T2 rfl HR9.out.1 _ [(Qg at_ (k:Int),sw),(wrap64 (Qg at_ (k:Int)+1),y.k),(wrap64 (Qg at_ (k:Int)+2),y.d)] rfl (Sq.block HR9.out.2.2.1 rfl rfl (Nat.le_refl _) (by simp [maxLen])) (by have:=HLI.out;simp <;> omega) (by decide) HR9.out.2.1.size ?_);intro a8 k8 w8 r8 F8;generalize hT3:T2++[(Qg at_ (k:Int),sw),(wrap64 (Qg at_ (k:Int)+1),y.k),(wrap64 (Qg at_ (k:Int)+2),y.d)]=T3 at r8 ⊢))
      have HR8:=q9 (qc r8 (qc (qc (Ob.kept HR9.out.2.2.2 F8 (jd HR9.out.1 HR9.out.2.2.2 (by decide))) (HR9.out.2.1.own F8 (z8 HR9.out.1))) (show T++yl at_ 0 (its.take (k+1))=T3 by rw [<- hT3,<- HT2.out,HY.out,List.append_assoc])))
      go_roundw
      case rel=>exact ⟨k+1,HK2.out.1,by simp,by rw [HR8.out.2.2];exact HR8.out.1,HR8.out.2.1.1,HR8.out.2.1.2⟩
      case measure=>exact meas rfl HK2.out.2
     ·rw [List.getElem?_eq_none (by omega:its.length<=k)] at hx9
      obtain ⟨g2,off2,rfl,d0,d1,d2⟩:=q1q hs9 hx9
      unfold ceO at d0 d1 d2
      simp only at d0 d1 d2
      have hne:∀ W,(binOp .neq 179 (.agg #[.int .i64 0,.int .i64 0,.int .i64 0]) (.agg #[.int .i64 0,.int .i64 0,.int .i64 0])).run Tryz.prog W = .ok (.bool false) W:=fun W=>by have h:=q9w ⟨0,0,0⟩ ⟨0,0,0⟩ W;simpa using h
      have F1:=(Fr.refl [] wr).alloc (.cells #[.int .i64 0,.int .i64 0,.int .i64 0] 179)
      have HR8:=q9 (qc (qm hr F1) (qc (qc (ok.up F1) (Fk.trans F1)) (show its.take (k+1)=its.take k by rw [List.take_of_length_le (by omega),List.take_of_length_le (by omega)])))
      clear hr F1 hs9 hx9 Fk ok
      go_wp2_with fail
      go_roundw
      case rel=>exact ⟨k+1,HK2.out.1,by simp,by rw [HR8.out.2.2];exact HR8.out.1,HR8.out.2.1.1,HR8.out.2.1.2⟩
      case measure=>exact meas rfl HK2.out.2
    ·obtain rfl:k=sn:=by omega
     have HR8:=q9 (qc hr (qc Fk (show T++yl at_ 0 (its.take k)=yz (ns.take (i+1)) by rw [HWT.out,<- HT.out,List.append_assoc,List.take_of_length_le HIT.out];rfl)))
     clear hr Fk ok
     go_wp2_with fail
     go_roundw
     case rel=>exact ⟨i+1,HI2.out.1,by simp,by rw [<- HR8.out.2.2];exact HR8.out.1,HR8.out.2.1⟩
     case measure=>exact meas rfl HI2.out.2
  ·obtain rfl:i=ns.length:=by omega
   rw [List.take_length] at hr
   have HR:=q9 (qc hr F)
   clear hr F
   go_wp2_with fail
   go_ret
   exact ⟨⟨_,rfl,HR.out.1⟩,HR.out.2⟩
end Go.Proofs.YtppajakfaomkaaaGreatDoor.Mx
namespace Go.Proofs.YtppajakfaomkaaaGreatDoor.Mx
open Go.RowKit Ar Ref
def Lok.sa (x:Lok):Int:=Qg x.chunk x.i
def Lok.live (x:Lok):Bool:=decide (1<=x.line) && decide (x.line<=7)
def Lok.act (x:Lok) (s:St):St :=
 if x.line=1 then s.load (wrap64 (x.chunk+1)) else if x.line=2 then s.load x.sa else if x.line=3 then s.load (wrap64 (x.sa+1)) else if x.line=4 then s.load 1
 else if x.line=5 then s.swap x.sa 1 (vq x.g) else if x.line=6 then s.load x.sa else s.load (wrap64 (x.sa+2))
def Lok.told (x:Lok) (s:St):Int :=
 if x.line=1 then qq s.l (wrap64 (x.chunk+1)) else if x.line=2 then qq s.l x.sa else if x.line=3 then qq s.l (wrap64 (x.sa+1)) else if x.line=4 then qq s.l 1
 else if x.line=6 then qq s.l x.sa else qq s.l (wrap64 (x.sa+2))
def Lok.next (x:Lok) (v:Int):Lok :=
 if x.line=1 then ({ x with count:=max 0 (min v x.c.c),i:=-1 }:Lok).on
 else if x.line=2 then (if v<=0\/v=2 then ({ x with s:=v,line:=3 }:Lok).on else { x with s:=v,line:=3 })
 else if x.line=3 then (if v<x.lo\/x.hi<v then ({ x with k:=v }:Lok).on else if x.s=1 then { x with k:=v,line:=4 } else ({ x with k:=v }:Lok).seven)
 else if x.line=4 then { x with g:=v,line:=5 } else if x.line=5 then { x with line:=6 }
 else if x.line=6 then (if v<3 then ({ x with s:=v }:Lok).on else ({ x with s:=v }:Lok).seven)
 else ({ x with l:=q0y x.l ⟨x.k,Va x.s,v⟩ }:Lok).on
def Lok.step (x:Lok) (s:St):Lok×St:=if x.live=true then (x.next (x.told s),x.act s) else (x,s)
def Zz (w:World) (x:Lok) (b p q:Nat) (y:Lok) (t:St) (e:Ending) (w':World):Prop:=e = .returned (.bool (decide (y.line=0)))/\(∃ lv',xu w' b { y with lv:=lv' } /\ Sq fT w' lv' y.l/\(lv'=x.lv\/y.l≠[]/\∀ g,g∈lv'.ownBlock.toList->w.heap.size<=g))/\Rar w' p q t/\Fr [b,p,q] w w'
theorem q6j (l:List It) (x:It):q0y l x≠[]:=by
 unfold q0y
 split
 ·rename_i i h
  have:=Ug h
  intro e
  have h2:=congrArg List.length e
  simp at h2
  rw [h2] at this
  simp at this
 ·cases l with
  | nil=>simp [q0b]
  | cons y r=>unfold q0b;split <;> simp
theorem xq (x:Lok):x.on.lv=x.lv:=by unfold Lok.on;split <;> rfl
theorem jf (x:Lok):x.on.l=x.l:=by unfold Lok.on;split <;> rfl
theorem Qv (x:Lok):x.seven.lv=x.lv:=by unfold Lok.seven;split <;> first | rw [xq] | rfl
theorem Jq (x:Lok):x.seven.l=x.l:=by unfold Lok.seven;split <;> first | rw [jf] | rfl
theorem sqT {b p q:Nat} {w w':World} {v:Value} {l:List It} (h:Sq fT w v l) (D:Fr [b,p,q] w w') (hb:b∉v.ownBlock.toList) (hp:p∉v.ownBlock.toList) (hq:q∉v.ownBlock.toList):Sq fT w' v l :=
 h.kept D (fun g hg hi=>by simp at hi;rcases hi with rfl | rfl | rfl <;> contradiction)
theorem q2w (x:Lok) (hl:x.line=4) (hc:x.c.Ok) (hi:-1<=x.i/\x.i<=100) (hlen:x.l.length<=900) (b p q:Nat) (s:St) (w:World) (h:xu w b x) (hA:Rar w p q s) (hp:b≠p) (hq:b≠q) (hs:Sq fT w x.lv x.l) (hb:b∉x.lv.ownBlock.toList) (hp2:p∉x.lv.ownBlock.toList) (hq2:q∉x.lv.ownBlock.toList) :
  Calls Tryz.prog 49 #[.pointer (some ⟨b,0,none⟩),.pointer (some ⟨p,0,none⟩)] w (Zz w x b p q (x.next (qq s.l 1)) (s.load 1)):=by
 generalize hy:x.next (qq s.l 1)=y
 have HY:=q9 hy
 clear hy
 obtain ⟨c0,c1,c2,c3,c4,c5,c6,c7,c8,c9,c10,c11,c12,c13,c14⟩:=qw h
 have z:=h.frozen
 go_enter Tryz.func49,Tryz.ntmps49
 go_wp2_with fail
 have k4:=qb c4
 have k9:=qb c9
 clear c0 c1 c2 c3 c4 c5 c6 c7 c8 c9 c10 c11 c12 c13 c14 z
 refine wiq ?_
 repeat (go_big_quiet_step ((go_at_call 54;exact Calls.in_same (xy _ _ _))))
 refine wpQuiet_nil ?_
 intro w0 F0
 rw [show Qg x.chunk x.i=x.sa from rfl]
 have h0:xu w0 b x:=Ob.up h F0
 have A0:=hA.kept F0
 have D0:Fr [b,p,q] w w0:=F0.mono
 clear k4 k9 h hA F0
 obtain ⟨c0,c1,c2,c3,c4,c5,c6,c7,c8,c9,c10,c11,c12,c13,c14⟩:=qw h0
 have z:=h0.frozen
 go_wp2_with fail
 have A1:=A0
 have h1:=h0
 have D1:=D0
 clear c0 c1 c2 c3 c4 c5 c6 c7 c8 c9 c10 c11 c12 c13 c14 z
 refine (Ref.zi _ p q s 1 A1).mono ?_;rintro e w5 ⟨rfl,A5,F5⟩
 have h5:=Ob.kept h1 F5 (by simp;exact ⟨hp,hq⟩)
 have D5:=zm D1 F5 (by simp)
 clear A1 h1 D1 F5 A0 h0 D0
 obtain ⟨c0,c1,c2,c3,c4,c5,c6,c7,c8,c9,c10,c11,c12,c13,c14⟩:=qw h5
 have z:=h5.frozen
 have hn:y = { x with g:=qq s.l 1,line:=5 }:=by rw [<- HY.out];unfold Lok.next;simp [hl]
 subst hn
 go_wp2_with fail
 go_ret
 exact ⟨rfl,⟨x.lv,(Ob.set (Ob.set h5 _) (i:=8) (.int .i64 5)),sqT hs ((Fr.setCell' (Fr.setCell' D5 _ (by simp)) (b:=b) (i:=8) (.int .i64 5) (by simp))) hb hp2 hq2,.inl rfl⟩,(Rar.set (Rar.set A5 hp hq _) hp hq (i:=8) (.int .i64 5)),(Fr.setCell' (Fr.setCell' D5 _ (by simp)) (b:=b) (i:=8) (.int .i64 5) (by simp))⟩
theorem q3k (x:Lok) (hl:x.line=2) (hc:x.c.Ok) (hi:-1<=x.i/\x.i<=100) (hlen:x.l.length<=900) (b p q:Nat) (s:St) (w:World) (h:xu w b x) (hA:Rar w p q s) (hp:b≠p) (hq:b≠q) (hs:Sq fT w x.lv x.l) (hb:b∉x.lv.ownBlock.toList) (hp2:p∉x.lv.ownBlock.toList) (hq2:q∉x.lv.ownBlock.toList) :
  Calls Tryz.prog 49 #[.pointer (some ⟨b,0,none⟩),.pointer (some ⟨p,0,none⟩)] w (Zz w x b p q (x.next (qq s.l x.sa)) (s.load x.sa)):=by
 generalize hy:x.next (qq s.l x.sa)=y
 have HY:=q9 hy
 clear hy
 obtain ⟨c0,c1,c2,c3,c4,c5,c6,c7,c8,c9,c10,c11,c12,c13,c14⟩:=qw h
 have z:=h.frozen
 go_enter Tryz.func49,Tryz.ntmps49
 go_wp2_with fail
 have k4:=qb c4
 have k9:=qb c9
 clear c0 c1 c2 c3 c4 c5 c6 c7 c8 c9 c10 c11 c12 c13 c14 z
 refine wiq ?_
 repeat (go_big_quiet_step ((go_at_call 54;exact Calls.in_same (xy _ _ _))))
 refine wpQuiet_nil ?_
 intro w0 F0
 rw [show Qg x.chunk x.i=x.sa from rfl]
 have h0:xu w0 b x:=Ob.up h F0
 have A0:=hA.kept F0
 have D0:Fr [b,p,q] w w0:=F0.mono
 clear k4 k9 h hA F0
 obtain ⟨c0,c1,c2,c3,c4,c5,c6,c7,c8,c9,c10,c11,c12,c13,c14⟩:=qw h0
 have z:=h0.frozen
 go_wp2_with fail
 have A1:=A0
 have h1:=h0
 have D1:=D0
 clear c0 c1 c2 c3 c4 c5 c6 c7 c8 c9 c10 c11 c12 c13 c14 z
 refine (Ref.zi _ p q s _ A1).mono ?_;rintro e w5 ⟨rfl,A5,F5⟩
 have h5:=Ob.kept h1 F5 (by simp;exact ⟨hp,hq⟩)
 have D5:=zm D1 F5 (by simp)
 clear A1 h1 D1 F5 A0 h0 D0
 obtain ⟨c0,c1,c2,c3,c4,c5,c6,c7,c8,c9,c10,c11,c12,c13,c14⟩:=qw h5
 have z:=h5.frozen
 generalize hv:qq s.l x.sa=v at *
 by_cases e1:v<=0
 ·have g1:decide (v<=0)=true:=by simpa using e1
  have hn:y=Lok.on ({ x with s:=v,line:=3 }:Lok):=by rw [<- HY.out];unfold Lok.next;simp [hl,e1]
  subst hn
  go_wp2_with fail
  have h6:xu ((w5.setCell ⟨b,11,none⟩ (.int .i64 v)).setCell ⟨b,8,none⟩ (.int .i64 3)) b { x with s:=v,line:=3 }:=(Ob.set (Ob.set h5 (i:=11) (.int .i64 v)) (i:=8) (.int .i64 3))
  have A6:=(Rar.set (Rar.set A5 hp hq (i:=11) (.int .i64 v)) hp hq (i:=8) (.int .i64 3))
  have D6:=(Fr.setCell' (Fr.setCell' D5 (b:=b) (i:=11) (.int .i64 v) (by simp)) (b:=b) (i:=8) (.int .i64 3) (by simp))
  generalize ((w5.setCell ⟨b,11,none⟩ (.int .i64 v)).setCell ⟨b,8,none⟩ (.int .i64 3))=w6 at *
  clear h5 A5 D5
  clear c0 c1 c2 c3 c4 c5 c6 c7 c8 c9 c10 c11 c12 c13 c14 z
  refine (Qm ({ x with s:=v,line:=3 }:Lok) hi b _ h6).mono ?_;rintro e w7 ⟨rfl,h7,F7⟩
  have A7:=A6.kept F7 (by simp;exact hp.symm) (by simp;exact hq.symm)
  have D7:=zm D6 F7 (by simp)
  clear h6 A6 F7 D6
  obtain ⟨-,-,-,-,-,-,-,-,c8,-,-,-,-,-,-⟩:=qw h7
  go_wp2_with fail
  go_ret
  exact ⟨rfl,⟨(Lok.on ({ x with s:=v,line:=3 }:Lok)).lv,h7,by rw [xq,jf];exact sqT hs D7 hb hp2 hq2,.inl (xq _)⟩,A7,D7⟩
 ·have g1:decide (v<=0)=false:=by simpa using e1
  by_cases e2:v=2
  ·have g2:(v == 2)=true:=by simpa using e2
   have hn:y=Lok.on ({ x with s:=v,line:=3 }:Lok):=by rw [<- HY.out];unfold Lok.next;simp [hl,e2]
   subst hn
   have HE:=q9 e2
   clear e2
   go_wp2_with fail
   have h6:xu ((w5.setCell ⟨b,11,none⟩ (.int .i64 v)).setCell ⟨b,8,none⟩ (.int .i64 3)) b { x with s:=v,line:=3 }:=(Ob.set (Ob.set h5 (i:=11) (.int .i64 v)) (i:=8) (.int .i64 3))
   have A6:=(Rar.set (Rar.set A5 hp hq (i:=11) (.int .i64 v)) hp hq (i:=8) (.int .i64 3))
   have D6:=(Fr.setCell' (Fr.setCell' D5 (b:=b) (i:=11) (.int .i64 v) (by simp)) (b:=b) (i:=8) (.int .i64 3) (by simp))
   generalize ((w5.setCell ⟨b,11,none⟩ (.int .i64 v)).setCell ⟨b,8,none⟩ (.int .i64 3))=w6 at *
   clear h5 A5 D5
   clear c0 c1 c2 c3 c4 c5 c6 c7 c8 c9 c10 c11 c12 c13 c14 z
   refine (Qm ({ x with s:=v,line:=3 }:Lok) hi b _ h6).mono ?_;rintro e w7 ⟨rfl,h7,F7⟩
   have A7:=A6.kept F7 (by simp;exact hp.symm) (by simp;exact hq.symm)
   have D7:=zm D6 F7 (by simp)
   clear h6 A6 F7 D6
   obtain ⟨-,-,-,-,-,-,-,-,c8,-,-,-,-,-,-⟩:=qw h7
   go_wp2_with fail
   go_ret
   exact ⟨rfl,⟨(Lok.on ({ x with s:=v,line:=3 }:Lok)).lv,h7,by rw [xq,jf];exact sqT hs D7 hb hp2 hq2,.inl (xq _)⟩,A7,D7⟩
  have g2:(v == 2)=false:=by simpa using e2
  have hn:y = { x with s:=v,line:=3 }:=by rw [<- HY.out];unfold Lok.next;simp [hl,e1,e2]
  subst hn
  go_wp2_with fail
  go_ret
  exact ⟨rfl,⟨x.lv,(Ob.set (Ob.set h5 _) (i:=8) (.int .i64 3)),sqT hs ((Fr.setCell' (Fr.setCell' D5 _ (by simp)) (b:=b) (i:=8) (.int .i64 3) (by simp))) hb hp2 hq2,.inl rfl⟩,(Rar.set (Rar.set A5 hp hq _) hp hq (i:=8) (.int .i64 3)),(Fr.setCell' (Fr.setCell' D5 _ (by simp)) (b:=b) (i:=8) (.int .i64 3) (by simp))⟩
theorem q2n (x:Lok) (hl:x.line=5) (hc:x.c.Ok) (hi:-1<=x.i/\x.i<=100) (hlen:x.l.length<=900) (b p q:Nat) (s:St) (w:World) (h:xu w b x) (hA:Rar w p q s) (hp:b≠p) (hq:b≠q) (hs:Sq fT w x.lv x.l) (hb:b∉x.lv.ownBlock.toList) (hp2:p∉x.lv.ownBlock.toList) (hq2:q∉x.lv.ownBlock.toList) :
  Calls Tryz.prog 49 #[.pointer (some ⟨b,0,none⟩),.pointer (some ⟨p,0,none⟩)] w (Zz w x b p q (x.next (x.told s)) (s.swap x.sa 1 (vq x.g))):=by
 generalize hy:x.next (x.told s)=y
 have HY:=q9 hy
 clear hy
 obtain ⟨c0,c1,c2,c3,c4,c5,c6,c7,c8,c9,c10,c11,c12,c13,c14⟩:=qw h
 have z:=h.frozen
 go_enter Tryz.func49,Tryz.ntmps49
 go_wp2_with fail
 have k4:=qb c4
 have k9:=qb c9
 clear c0 c1 c2 c3 c4 c5 c6 c7 c8 c9 c10 c11 c12 c13 c14 z
 refine wiq ?_
 repeat (go_big_quiet_step ((go_at_call 54;exact Calls.in_same (xy _ _ _))))
 refine wpQuiet_nil ?_
 intro w0 F0
 rw [show Qg x.chunk x.i=x.sa from rfl]
 have h0:xu w0 b x:=Ob.up h F0
 have A0:=hA.kept F0
 have D0:Fr [b,p,q] w w0:=F0.mono
 clear k4 k9 h hA F0
 obtain ⟨c0,c1,c2,c3,c4,c5,c6,c7,c8,c9,c10,c11,c12,c13,c14⟩:=qw h0
 have z:=h0.frozen
 go_wp2_with fail
 refine (X8 _ _).mono ?_;rintro e _ ⟨rfl,rfl⟩
 go_wp2_with fail
 have A1:=A0
 have h1:=h0
 have D1:=D0
 clear c0 c1 c2 c3 c4 c5 c6 c7 c8 c9 c10 c11 c12 c13 c14 z
 refine (Ref.yt _ p q s _ 1 _ A1).mono ?_;rintro e w5 ⟨rfl,A5,F5⟩
 have h5:=Ob.kept h1 F5 (by simp;exact ⟨hp,hq⟩)
 have D5:=zm D1 F5 (by simp)
 clear A1 h1 D1 F5 A0 h0 D0
 obtain ⟨c0,c1,c2,c3,c4,c5,c6,c7,c8,c9,c10,c11,c12,c13,c14⟩:=qw h5
 have z:=h5.frozen
 have hn:y = { x with line:=6 }:=by rw [<- HY.out];unfold Lok.next;simp [hl]
 subst hn
 go_wp2_with fail
 go_ret
 exact ⟨rfl,⟨x.lv,(Ob.set h5 _),sqT hs ((Fr.setCell' D5 _ (by simp))) hb hp2 hq2,.inl rfl⟩,(Rar.set A5 hp hq _),(Fr.setCell' D5 _ (by simp))⟩
theorem q3q (x:Lok) (hl:x.line=6) (hc:x.c.Ok) (hi:-1<=x.i/\x.i<=100) (hlen:x.l.length<=900) (b p q:Nat) (s:St) (w:World) (h:xu w b x) (hA:Rar w p q s) (hp:b≠p) (hq:b≠q) (hs:Sq fT w x.lv x.l) (hb:b∉x.lv.ownBlock.toList) (hp2:p∉x.lv.ownBlock.toList) (hq2:q∉x.lv.ownBlock.toList) :
  Calls Tryz.prog 49 #[.pointer (some ⟨b,0,none⟩),.pointer (some ⟨p,0,none⟩)] w (Zz w x b p q (x.next (qq s.l x.sa)) (s.load x.sa)):=by
 generalize hy:x.next (qq s.l x.sa)=y
 have HY:=q9 hy
 clear hy
 obtain ⟨c0,c1,c2,c3,c4,c5,c6,c7,c8,c9,c10,c11,c12,c13,c14⟩:=qw h
 have z:=h.frozen
 go_enter Tryz.func49,Tryz.ntmps49
 go_wp2_with fail
 have k4:=qb c4
 have k9:=qb c9
 clear c0 c1 c2 c3 c4 c5 c6 c7 c8 c9 c10 c11 c12 c13 c14 z
 refine wiq ?_
 repeat (go_big_quiet_step ((go_at_call 54;exact Calls.in_same (xy _ _ _))))
 refine wpQuiet_nil ?_
 intro w0 F0
 rw [show Qg x.chunk x.i=x.sa from rfl]
 have h0:xu w0 b x:=Ob.up h F0
 have A0:=hA.kept F0
 have D0:Fr [b,p,q] w w0:=F0.mono
 clear k4 k9 h hA F0
 obtain ⟨c0,c1,c2,c3,c4,c5,c6,c7,c8,c9,c10,c11,c12,c13,c14⟩:=qw h0
 have z:=h0.frozen
 go_wp2_with fail
 have A1:=A0
 have h1:=h0
 have D1:=D0
 clear c0 c1 c2 c3 c4 c5 c6 c7 c8 c9 c10 c11 c12 c13 c14 z
 refine (Ref.zi _ p q s _ A1).mono ?_;rintro e w5 ⟨rfl,A5,F5⟩
 have h5:=Ob.kept h1 F5 (by simp;exact ⟨hp,hq⟩)
 have D5:=zm D1 F5 (by simp)
 clear A1 h1 D1 F5 A0 h0 D0
 obtain ⟨c0,c1,c2,c3,c4,c5,c6,c7,c8,c9,c10,c11,c12,c13,c14⟩:=qw h5
 have z:=h5.frozen
 generalize hv:qq s.l x.sa=v at *
 by_cases e1:v<3
 ·have g1:decide (v<3)=true:=by simpa using e1
  have hn:y=Lok.on ({ x with s:=v }:Lok):=by rw [<- HY.out];unfold Lok.next;simp [hl,e1]
  subst hn
  go_wp2_with fail
  have h6:xu (w5.setCell ⟨b,11,none⟩ (.int .i64 v)) b { x with s:=v }:=(Ob.set h5 (i:=11) (.int .i64 v))
  have A6:=(Rar.set A5 hp hq (i:=11) (.int .i64 v))
  have D6:=(Fr.setCell' D5 (b:=b) (i:=11) (.int .i64 v) (by simp))
  generalize (w5.setCell ⟨b,11,none⟩ (.int .i64 v))=w6 at *
  clear h5 A5 D5
  clear c0 c1 c2 c3 c4 c5 c6 c7 c8 c9 c10 c11 c12 c13 c14 z
  refine (Qm ({ x with s:=v }:Lok) hi b _ h6).mono ?_;rintro e w7 ⟨rfl,h7,F7⟩
  have A7:=A6.kept F7 (by simp;exact hp.symm) (by simp;exact hq.symm)
  have D7:=zm D6 F7 (by simp)
  clear h6 A6 F7 D6
  obtain ⟨-,-,-,-,-,-,-,-,c8,-,-,-,-,-,-⟩:=qw h7
  go_wp2_with fail
  go_ret
  exact ⟨rfl,⟨(Lok.on ({ x with s:=v }:Lok)).lv,h7,by rw [xq,jf];exact sqT hs D7 hb hp2 hq2,.inl (xq _)⟩,A7,D7⟩
 ·have g1:decide (v<3)=false:=by simpa using e1
  have hn:y=Lok.seven ({ x with s:=v }:Lok):=by rw [<- HY.out];unfold Lok.next;simp [hl,e1]
  subst hn
  go_wp2_with fail
  have h6:xu (w5.setCell ⟨b,11,none⟩ (.int .i64 v)) b { x with s:=v }:=(Ob.set h5 (i:=11) (.int .i64 v))
  have A6:=(Rar.set A5 hp hq (i:=11) (.int .i64 v))
  have D6:=(Fr.setCell' D5 (b:=b) (i:=11) (.int .i64 v) (by simp))
  generalize (w5.setCell ⟨b,11,none⟩ (.int .i64 v))=w6 at *
  clear h5 A5 D5
  clear c0 c1 c2 c3 c4 c5 c6 c7 c8 c9 c10 c11 c12 c13 c14 z
  refine (Wn ({ x with s:=v }:Lok) hi b _ (by omega:x.l.length<=1000) h6 (sqT hs D6 hb hp2 hq2) hb).mono ?_;rintro e w7 ⟨rfl,h7,F7⟩
  have A7:=A6.kept F7 (by simp;exact hp.symm) (by simp;exact hq.symm)
  have D7:=zm D6 F7 (by simp)
  clear h6 A6 F7 D6
  obtain ⟨-,-,-,-,-,-,-,-,c8,-,-,-,-,-,-⟩:=qw h7
  go_wp2_with fail
  go_ret
  exact ⟨rfl,⟨(Lok.seven ({ x with s:=v }:Lok)).lv,h7,by rw [Qv,Jq];exact sqT hs D7 hb hp2 hq2,.inl (Qv _)⟩,A7,D7⟩
theorem q3b (x:Lok) (hl:x.line=3) (hc:x.c.Ok) (hi:-1<=x.i/\x.i<=100) (hlen:x.l.length<=900) (b p q:Nat) (s:St) (w:World) (h:xu w b x) (hA:Rar w p q s) (hp:b≠p) (hq:b≠q) (hs:Sq fT w x.lv x.l) (hb:b∉x.lv.ownBlock.toList) (hp2:p∉x.lv.ownBlock.toList) (hq2:q∉x.lv.ownBlock.toList) :
  Calls Tryz.prog 49 #[.pointer (some ⟨b,0,none⟩),.pointer (some ⟨p,0,none⟩)] w (Zz w x b p q (x.next (qq s.l (wrap64 (x.sa+1)))) (s.load (wrap64 (x.sa+1)))):=by
 generalize hy:x.next (qq s.l (wrap64 (x.sa+1)))=y
 have HY:=q9 hy
 clear hy
 obtain ⟨c0,c1,c2,c3,c4,c5,c6,c7,c8,c9,c10,c11,c12,c13,c14⟩:=qw h
 have z:=h.frozen
 go_enter Tryz.func49,Tryz.ntmps49
 go_wp2_with fail
 have k4:=qb c4
 have k9:=qb c9
 clear c0 c1 c2 c3 c4 c5 c6 c7 c8 c9 c10 c11 c12 c13 c14 z
 refine wiq ?_
 repeat (go_big_quiet_step ((go_at_call 54;exact Calls.in_same (xy _ _ _))))
 refine wpQuiet_nil ?_
 intro w0 F0
 rw [show Qg x.chunk x.i=x.sa from rfl]
 have h0:xu w0 b x:=Ob.up h F0
 have A0:=hA.kept F0
 have D0:Fr [b,p,q] w w0:=F0.mono
 clear k4 k9 h hA F0
 obtain ⟨c0,c1,c2,c3,c4,c5,c6,c7,c8,c9,c10,c11,c12,c13,c14⟩:=qw h0
 have z:=h0.frozen
 go_wp2_with fail
 have A1:=A0
 have h1:=h0
 have D1:=D0
 clear c0 c1 c2 c3 c4 c5 c6 c7 c8 c9 c10 c11 c12 c13 c14 z
 refine (Ref.zi _ p q s _ A1).mono ?_;rintro e w5 ⟨rfl,A5,F5⟩
 have h5:=Ob.kept h1 F5 (by simp;exact ⟨hp,hq⟩)
 have D5:=zm D1 F5 (by simp)
 clear A1 h1 D1 F5 A0 h0 D0
 obtain ⟨c0,c1,c2,c3,c4,c5,c6,c7,c8,c9,c10,c11,c12,c13,c14⟩:=qw h5
 have z:=h5.frozen
 generalize hv:qq s.l (wrap64 (x.sa+1))=v at *
 go_wp2_with fail
 have h6:xu (w5.setCell ⟨b,12,none⟩ (.int .i64 v)) b { x with k:=v }:=(Ob.set h5 (i:=12) (.int .i64 v))
 have A6:=(Rar.set A5 hp hq (i:=12) (.int .i64 v))
 have D6:=(Fr.setCell' D5 (b:=b) (i:=12) (.int .i64 v) (by simp))
 generalize (w5.setCell ⟨b,12,none⟩ (.int .i64 v))=w6 at *
 clear h5 A5 D5
 clear c0 c1 c2 c3 c4 c5 c6 c7 c8 c9 c10 c11 c12 c13 c14 z
 by_cases e1:v<x.lo
 ·have g1:decide (v<x.lo)=true:=by simpa using e1
  have hn:y=Lok.on ({ x with k:=v }:Lok):=by rw [<- HY.out];unfold Lok.next;simp [hl,e1]
  subst hn
  obtain ⟨-,-,-,-,-,c5,c6,-,-,-,-,-,c12,-,-⟩:=qw h6
  have k5:=qb c5
  have k6:=qb c6
  have k12:=qb c12
  clear c5 c6 c12
  refine wiq ?_
  repeat (go_big_quiet_step (fail))
  refine wpQuiet_nil ?_
  intro w8 F8
  replace h6:=Ob.up h6 F8
  replace A6:=A6.kept F8
  replace D6:=D6.then F8
  clear k5 k6 k12 F8
  go_wp2_with fail
  refine (Qm ({ x with k:=v }:Lok) hi b _ h6).mono ?_;rintro e w7 ⟨rfl,h7,F7⟩
  have A7:=A6.kept F7 (by simp;exact hp.symm) (by simp;exact hq.symm)
  have D7:=zm D6 F7 (by simp)
  clear h6 A6 F7 D6
  obtain ⟨-,-,-,-,-,-,-,-,c8,-,-,-,-,-,-⟩:=qw h7
  go_wp2_with fail
  go_ret
  exact ⟨rfl,⟨(Lok.on ({ x with k:=v }:Lok)).lv,h7,by rw [xq,jf];exact sqT hs D7 hb hp2 hq2,.inl (xq _)⟩,A7,D7⟩
 ·have g1:decide (v<x.lo)=false:=by simpa using e1
  by_cases e2:x.hi<v
  ·have g2:decide (v>x.hi)=true:=by simpa using e2
   have hn:y=Lok.on ({ x with k:=v }:Lok):=by rw [<- HY.out];unfold Lok.next;simp [hl,e2]
   subst hn
   obtain ⟨-,-,-,-,-,c5,c6,-,-,-,-,-,c12,-,-⟩:=qw h6
   have k5:=qb c5
   have k6:=qb c6
   have k12:=qb c12
   clear c5 c6 c12
   refine wiq ?_
   repeat (go_big_quiet_step (fail))
   refine wpQuiet_nil ?_
   intro w8 F8
   replace h6:=Ob.up h6 F8
   replace A6:=A6.kept F8
   replace D6:=D6.then F8
   clear k5 k6 k12 F8
   go_wp2_with fail
   refine (Qm ({ x with k:=v }:Lok) hi b _ h6).mono ?_;rintro e w7 ⟨rfl,h7,F7⟩
   have A7:=A6.kept F7 (by simp;exact hp.symm) (by simp;exact hq.symm)
   have D7:=zm D6 F7 (by simp)
   clear h6 A6 F7 D6
   obtain ⟨-,-,-,-,-,-,-,-,c8,-,-,-,-,-,-⟩:=qw h7
   go_wp2_with fail
   go_ret
   exact ⟨rfl,⟨(Lok.on ({ x with k:=v }:Lok)).lv,h7,by rw [xq,jf];exact sqT hs D7 hb hp2 hq2,.inl (xq _)⟩,A7,D7⟩
  have g2:decide (v>x.hi)=false:=by simpa using e2
  by_cases e3:x.s=1
  ·have g3:(x.s == 1)=true:=by simpa using e3
   have hn:y = { x with k:=v,line:=4 }:=by rw [<- HY.out];unfold Lok.next;simp [hl,e1,e2,e3]
   subst hn
   have HE:=q9 e3
   clear e3
   obtain ⟨-,-,-,-,-,c5,c6,-,-,-,-,-,c12,-,-⟩:=qw h6
   have k5:=qb c5
   have k6:=qb c6
   have k12:=qb c12
   clear c5 c6 c12
   refine wiq ?_
   repeat (go_big_quiet_step (fail))
   refine wpQuiet_nil ?_
   intro w8 F8
   replace h6:=Ob.up h6 F8
   replace A6:=A6.kept F8
   replace D6:=D6.then F8
   clear k5 k6 k12 F8
   obtain ⟨c0,c1,c2,c3,c4,c5,c6,c7,c8,c9,c10,c11,c12,c13,c14⟩:=qw h6
   have z:=h6.frozen
   go_wp2_with fail
   go_ret
   exact ⟨rfl,⟨x.lv,Ob.set h6 _,sqT hs (Fr.setCell' D6 _ (by simp)) hb hp2 hq2,.inl rfl⟩,Rar.set A6 hp hq _,Fr.setCell' D6 _ (by simp)⟩
  have g3:(x.s == 1)=false:=by simpa using e3
  have hn:y=Lok.seven ({ x with k:=v }:Lok):=by rw [<- HY.out];unfold Lok.next;simp [hl,e1,e2,e3]
  subst hn
  obtain ⟨-,-,-,-,-,c5,c6,-,-,-,-,-,c12,-,-⟩:=qw h6
  have k5:=qb c5
  have k6:=qb c6
  have k12:=qb c12
  clear c5 c6 c12
  refine wiq ?_
  repeat (go_big_quiet_step (fail))
  refine wpQuiet_nil ?_
  intro w8 F8
  replace h6:=Ob.up h6 F8
  replace A6:=A6.kept F8
  replace D6:=D6.then F8
  clear k5 k6 k12 F8
  obtain ⟨-,-,-,-,-,-,-,-,-,-,-,c11,-,-,-⟩:=qw h6
  go_wp2_with fail
  clear c11
  refine (Wn ({ x with k:=v }:Lok) hi b _ (by omega:x.l.length<=1000) h6 (sqT hs D6 hb hp2 hq2) hb).mono ?_;rintro e w7 ⟨rfl,h7,F7⟩
  have A7:=A6.kept F7 (by simp;exact hp.symm) (by simp;exact hq.symm)
  have D7:=zm D6 F7 (by simp)
  clear h6 A6 F7 D6
  obtain ⟨-,-,-,-,-,-,-,-,c8,-,-,-,-,-,-⟩:=qw h7
  go_wp2_with fail
  go_ret
  exact ⟨rfl,⟨(Lok.seven ({ x with k:=v }:Lok)).lv,h7,by rw [Qv,Jq];exact sqT hs D7 hb hp2 hq2,.inl (Qv _)⟩,A7,D7⟩
theorem q4e (x:Lok) (hl:x.line=1) (hc:x.c.Ok) (hi:-1<=x.i/\x.i<=100) (hlen:x.l.length<=900) (b p q:Nat) (s:St) (w:World) (h:xu w b x) (hA:Rar w p q s) (hp:b≠p) (hq:b≠q) (hs:Sq fT w x.lv x.l) (hb:b∉x.lv.ownBlock.toList) (hp2:p∉x.lv.ownBlock.toList) (hq2:q∉x.lv.ownBlock.toList) :
  Calls Tryz.prog 49 #[.pointer (some ⟨b,0,none⟩),.pointer (some ⟨p,0,none⟩)] w (Zz w x b p q (x.next (qq s.l (wrap64 (x.chunk+1)))) (s.load (wrap64 (x.chunk+1)))):=by
 generalize hy:x.next (qq s.l (wrap64 (x.chunk+1)))=y
 have HY:=q9 hy
 clear hy
 obtain ⟨c0,c1,c2,c3,c4,c5,c6,c7,c8,c9,c10,c11,c12,c13,c14⟩:=qw h
 have z:=h.frozen
 go_enter Tryz.func49,Tryz.ntmps49
 go_wp2_with fail
 have k4:=qb c4
 have k9:=qb c9
 clear c0 c1 c2 c3 c4 c5 c6 c7 c8 c9 c10 c11 c12 c13 c14 z
 refine wiq ?_
 repeat (go_big_quiet_step ((go_at_call 54;exact Calls.in_same (xy _ _ _))))
 refine wpQuiet_nil ?_
 intro w0 F0
 rw [show Qg x.chunk x.i=x.sa from rfl]
 have h0:xu w0 b x:=Ob.up h F0
 have A0:=hA.kept F0
 have D0:Fr [b,p,q] w w0:=F0.mono
 clear k4 k9 h hA F0
 obtain ⟨c0,c1,c2,c3,c4,c5,c6,c7,c8,c9,c10,c11,c12,c13,c14⟩:=qw h0
 have z:=h0.frozen
 go_wp2_with fail
 clear c0 c1 c2 c3 c4 c5 c6 c7 c8 c9 c10 c11 c12 c13 c14 z
 refine qo (by kernel_rfl) ?_
 refine yh 1 rfl (by kernel_rfl) (by kernel_rfl) (by kernel_rfl) rfl (fun _ _ d _ _ h=>by cases d <;> exact h) ?_
 go_frame
 refine z6 [p,q] w0 #[true,true,true,true,true,true,true,true,true,true,true,true,true,true,true,true,false,false,false,false,false,false] 15 6 rfl ?_
 refine lpq [true,false,true,true,true,true,true,true,false,true,true,true,true,true,false,false,false,false,false,false,false,false] 3 ((Fr.refl _ w0).drew) ?_
 apply qg
 refine ⟨fun wf Ff=>?_,?_⟩
 ·have hf:xu wf b x:=Ob.kept h0 Ff (by simp;exact ⟨hp,hq⟩)
  obtain ⟨-,c1,-,-,c4,-,-,-,-,-,-,-,-,-,-⟩:=qw hf
  have k1:=qb c1
  have k4:=qb c4
  clear c1 c4 hf
  simp only [sel]
  repeat (go_big_quiet_step (fail))
  exact wpQuiet_nil rfl
 refine loq 8 (fun w3 F3=>?_)
 have E3:=(Fr.refl [] w0).drew.trans F3
 have A3:=A0.kept E3
 have h3:=Ob.up h0 E3
 have D3:=D0.then E3
 clear A0 h0 D0 F3
 go_wp2_with fail
 refine (Ref.zi _ p q s _ A3).mono ?_;rintro e w4 ⟨rfl,A4,F4⟩
 have h4:=Ob.kept h3 F4 (by simp;exact ⟨hp,hq⟩)
 have D4:=zm D3 F4 (by simp)
 have E4:=(E3.mono (T:=[p,q]) (by simp)).trans F4
 clear A3 h3 D3 F4 E3
 generalize hv:qq s.l (wrap64 (x.chunk+1))=v at *
 go_wp2_with fail
 refine ql ⟨E4.mono,?_⟩
 refine loq 14 (fun w5 F5=>?_)
 have A5:=A4.kept F5
 have h5:=h4.up F5
 have D5:=D4.then F5
 have E5:=E4.then F5
 clear A4 h4 D4 E4 F5
 have hc2:=hc.c2
 have hct:=hc.t1
 by_cases e1:x.c.c<v
 ·have hN:max 0 (min v x.c.c)=x.c.c:=by omega
  have hn:y=Lok.on { x with count:=x.c.c,i:=-1 }:=by rw [<- HY.out];unfold Lok.next;rw [qf hl,hN]
  subst hn
  clear hN
  go_wp2_with fail
  refine ql ⟨E5.mono,?_⟩
  refine loq 15 (fun w7 F7=>?_)
  replace A5:=A5.kept F7
  replace h5:=h5.up F7
  replace D5:=D5.then F7
  replace E5:=E5.then F7
  clear F7
  go_wp2_with fail
  refine ql ⟨E5.mono,?_⟩
  refine qx (k:=16) rfl (by kernel_rfl) (fun w8 F8=>?_)
  replace A5:=A5.kept F8
  replace h5:=h5.up F8
  replace D5:=D5.then F8
  clear F8 E5
  obtain ⟨c0,c1,c2,c3,c4,c5,c6,c7,c8,c9,c10,c11,c12,c13,c14⟩:=qw h5
  have z:=h5.frozen
  go_wp2_with fail
  have h6:xu ((w8.setCell ⟨b,10,none⟩ (.int .i64 x.c.c)).setCell ⟨b,9,none⟩ (.int .i64 (-1))) b { x with count:=x.c.c,i:=-1 }:=(Ob.set (Ob.set h5 (i:=10) (.int .i64 x.c.c)) (i:=9) (.int .i64 (-1)))
  have A6:=(Rar.set (Rar.set A5 hp hq (i:=10) (.int .i64 x.c.c)) hp hq (i:=9) (.int .i64 (-1)))
  have D6:=(Fr.setCell' (Fr.setCell' D5 (b:=b) (i:=10) (.int .i64 x.c.c) (by simp)) (b:=b) (i:=9) (.int .i64 (-1)) (by simp))
  generalize ((w8.setCell ⟨b,10,none⟩ (.int .i64 x.c.c)).setCell ⟨b,9,none⟩ (.int .i64 (-1)))=w6 at *
  clear h5 A5 D5
  clear c0 c1 c2 c3 c4 c5 c6 c7 c8 c9 c10 c11 c12 c13 c14 z
  refine (Qm ({ x with count:=x.c.c,i:=-1 }:Lok) (by simp) b _ h6).mono ?_;rintro e w7 ⟨rfl,h7,F7⟩
  have A7:=A6.kept F7 (by simp;exact hp.symm) (by simp;exact hq.symm)
  have D7:=zm D6 F7 (by simp)
  clear h6 A6 F7 D6
  obtain ⟨-,-,-,-,-,-,-,-,c8,-,-,-,-,-,-⟩:=qw h7
  go_wp2_with fail
  go_ret
  exact ⟨rfl,⟨(Lok.on ({ x with count:=x.c.c,i:=-1 }:Lok)).lv,h7,by rw [xq,jf];exact sqT hs D7 hb hp2 hq2,.inl (xq _)⟩,A7,D7⟩
 ·by_cases e2:0<v
  ·have hN:max 0 (min v x.c.c)=v:=by omega
   have hn:y=Lok.on { x with count:=v,i:=-1 }:=by rw [<- HY.out];unfold Lok.next;rw [qf hl,hN]
   subst hn
   clear hN
   go_wp2_with fail
   refine ql ⟨E5.mono,?_⟩
   refine loq 15 (fun w7 F7=>?_)
   replace A5:=A5.kept F7
   replace h5:=h5.up F7
   replace D5:=D5.then F7
   replace E5:=E5.then F7
   clear F7
   go_wp2_with fail
   refine ql ⟨E5.mono,?_⟩
   refine qx (k:=16) rfl (by kernel_rfl) (fun w8 F8=>?_)
   replace A5:=A5.kept F8
   replace h5:=h5.up F8
   replace D5:=D5.then F8
   clear F8 E5
   obtain ⟨c0,c1,c2,c3,c4,c5,c6,c7,c8,c9,c10,c11,c12,c13,c14⟩:=qw h5
   have z:=h5.frozen
   go_wp2_with fail
   have h6:xu ((w8.setCell ⟨b,10,none⟩ (.int .i64 v)).setCell ⟨b,9,none⟩ (.int .i64 (-1))) b { x with count:=v,i:=-1 }:=(Ob.set (Ob.set h5 (i:=10) (.int .i64 v)) (i:=9) (.int .i64 (-1)))
   have A6:=(Rar.set (Rar.set A5 hp hq (i:=10) (.int .i64 v)) hp hq (i:=9) (.int .i64 (-1)))
   have D6:=(Fr.setCell' (Fr.setCell' D5 (b:=b) (i:=10) (.int .i64 v) (by simp)) (b:=b) (i:=9) (.int .i64 (-1)) (by simp))
   generalize ((w8.setCell ⟨b,10,none⟩ (.int .i64 v)).setCell ⟨b,9,none⟩ (.int .i64 (-1)))=w6 at *
   clear h5 A5 D5
   clear c0 c1 c2 c3 c4 c5 c6 c7 c8 c9 c10 c11 c12 c13 c14 z
   refine (Qm ({ x with count:=v,i:=-1 }:Lok) (by simp) b _ h6).mono ?_;rintro e w7 ⟨rfl,h7,F7⟩
   have A7:=A6.kept F7 (by simp;exact hp.symm) (by simp;exact hq.symm)
   have D7:=zm D6 F7 (by simp)
   clear h6 A6 F7 D6
   obtain ⟨-,-,-,-,-,-,-,-,c8,-,-,-,-,-,-⟩:=qw h7
   go_wp2_with fail
   go_ret
   exact ⟨rfl,⟨(Lok.on ({ x with count:=v,i:=-1 }:Lok)).lv,h7,by rw [xq,jf];exact sqT hs D7 hb hp2 hq2,.inl (xq _)⟩,A7,D7⟩
  have hN:max 0 (min v x.c.c)=0:=by omega
  have hn:y=Lok.on { x with count:=0,i:=-1 }:=by rw [<- HY.out];unfold Lok.next;rw [qf hl,hN]
  subst hn
  clear hN
  go_wp2_with fail
  refine ql ⟨E5.mono,?_⟩
  refine loq 15 (fun w7 F7=>?_)
  replace A5:=A5.kept F7
  replace h5:=h5.up F7
  replace D5:=D5.then F7
  replace E5:=E5.then F7
  clear F7
  go_wp2_with fail
  refine ql ⟨E5.mono,?_⟩
  refine qx (k:=16) rfl (by kernel_rfl) (fun w8 F8=>?_)
  replace A5:=A5.kept F8
  replace h5:=h5.up F8
  replace D5:=D5.then F8
  clear F8 E5
  obtain ⟨c0,c1,c2,c3,c4,c5,c6,c7,c8,c9,c10,c11,c12,c13,c14⟩:=qw h5
  have z:=h5.frozen
  go_wp2_with fail
  have h6:xu ((w8.setCell ⟨b,10,none⟩ (.int .i64 0)).setCell ⟨b,9,none⟩ (.int .i64 (-1))) b { x with count:=0,i:=-1 }:=(Ob.set (Ob.set h5 (i:=10) (.int .i64 0)) (i:=9) (.int .i64 (-1)))
  have A6:=(Rar.set (Rar.set A5 hp hq (i:=10) (.int .i64 0)) hp hq (i:=9) (.int .i64 (-1)))
  have D6:=(Fr.setCell' (Fr.setCell' D5 (b:=b) (i:=10) (.int .i64 0) (by simp)) (b:=b) (i:=9) (.int .i64 (-1)) (by simp))
  generalize ((w8.setCell ⟨b,10,none⟩ (.int .i64 0)).setCell ⟨b,9,none⟩ (.int .i64 (-1)))=w6 at *
  clear h5 A5 D5
  clear c0 c1 c2 c3 c4 c5 c6 c7 c8 c9 c10 c11 c12 c13 c14 z
  refine (Qm ({ x with count:=0,i:=-1 }:Lok) (by simp) b _ h6).mono ?_;rintro e w7 ⟨rfl,h7,F7⟩
  have A7:=A6.kept F7 (by simp;exact hp.symm) (by simp;exact hq.symm)
  have D7:=zm D6 F7 (by simp)
  clear h6 A6 F7 D6
  obtain ⟨-,-,-,-,-,-,-,-,c8,-,-,-,-,-,-⟩:=qw h7
  go_wp2_with fail
  go_ret
  exact ⟨rfl,⟨(Lok.on ({ x with count:=0,i:=-1 }:Lok)).lv,h7,by rw [xq,jf];exact sqT hs D7 hb hp2 hq2,.inl (xq _)⟩,A7,D7⟩
theorem Kt (x:Lok) (l:List It) (lv:Value):({ x with l:=l,lv:=lv }:Lok).on = { ({ x with l:=l }:Lok).on with lv:=lv }:=by unfold Lok.on;simp only;split <;> rfl
theorem q42 (x:Lok) (hl:x.line=7) (hc:x.c.Ok) (hi:-1<=x.i/\x.i<=100) (hlen:x.l.length<=900) (b p q:Nat) (s:St) (w:World) (h:xu w b x) (hA:Rar w p q s) (hp:b≠p) (hq:b≠q) (hs:Sq fT w x.lv x.l) (hb:b∉x.lv.ownBlock.toList) (hp2:p∉x.lv.ownBlock.toList) (hq2:q∉x.lv.ownBlock.toList) :
  Calls Tryz.prog 49 #[.pointer (some ⟨b,0,none⟩),.pointer (some ⟨p,0,none⟩)] w (Zz w x b p q (x.next (qq s.l (wrap64 (x.sa+2)))) (s.load (wrap64 (x.sa+2)))):=by
 generalize hy:x.next (qq s.l (wrap64 (x.sa+2)))=y
 have hn:y=({ x with l:=q0y x.l ⟨x.k,Va x.s,qq s.l (wrap64 (x.sa+2))⟩ }:Lok).on:=by rw [<- hy];unfold Lok.next;simp [hl]
 clear hy
 subst hn
 obtain ⟨c0,c1,c2,c3,c4,c5,c6,c7,c8,c9,c10,c11,c12,c13,c14⟩:=qw h
 have z:=h.frozen
 go_enter Tryz.func49,Tryz.ntmps49
 go_wp2_with fail
 have k4:=qb c4
 have k9:=qb c9
 clear c0 c1 c2 c3 c4 c5 c6 c7 c8 c9 c10 c11 c12 c13 c14 z
 refine wiq ?_
 repeat (go_big_quiet_step ((go_at_call 54;exact Calls.in_same (xy _ _ _))))
 refine wpQuiet_nil ?_
 intro w0 F0
 rw [show Qg x.chunk x.i=x.sa from rfl]
 have h0:xu w0 b x:=Ob.up h F0
 have A0:=hA.kept F0
 have D0:Fr [b,p,q] w w0:=F0.mono
 clear k4 k9 h hA F0
 obtain ⟨c0,c1,c2,c3,c4,c5,c6,c7,c8,c9,c10,c11,c12,c13,c14⟩:=qw h0
 have z:=h0.frozen
 go_wp2_with fail
 clear c0 c1 c2 c3 c4 c5 c6 c7 c8 c9 c10 c11 c12 c13 c14 z
 generalize hv:qq s.l (wrap64 (x.sa+2))=v at *
 have h6:=h0
 have A6:=A0
 clear h0 A0
 refine qy (by kernel_rfl) [b,p,q] (fun w2 F2=>?_)
 have E:Fr [b,p,q] w0 w2:=F2.mono
 replace h6:=h6.up F2
 replace A6:=A6.kept F2
 clear F2
 refine epq [true,true,true,true,false,true,true,true,false,false,true,true,true,false,false,false] 6 E ?_
 apply qg
 refine ⟨fun wf Ff=>?_,?_⟩
 ·simp only [sel]
  repeat (go_big_quiet_step (fail))
  exact wpQuiet_nil rfl
 refine jb [4,8] (by kernel_rfl) (by simp) (fun wx Fx m hm o ho=>?_)
 replace E:=E.then Fx
 replace h6:=h6.up Fx
 replace A6:=A6.kept Fx
 clear Fx
 simp only [List.mem_cons,List.not_mem_nil,or_false] at hm
 rcases hm with rfl | rfl
 ·obtain rfl:=qi ho
  obtain ⟨-,-,-,-,-,-,-,-,-,-,-,-,c12,-,-⟩:=qw h6
  go_wp2_with fail
  clear c12
  refine ql ⟨E,?_⟩
  refine eoq 8 (fun wx Fx=>?_)
  replace E:=E.then Fx
  replace h6:=h6.up Fx
  replace A6:=A6.kept Fx
  clear Fx
  obtain ⟨-,-,-,-,-,-,-,-,-,-,-,c11,-,-,-⟩:=qw h6
  go_wp2_with fail
  clear c11
  refine ql ⟨E,?_⟩
  refine epq [false,false,false,false,false,false,false,false,false,true,false,false,false,false,false,false] 3 E ?_
  apply qg
  refine ⟨fun wf Ff=>?_,?_⟩
  ·simp only [sel]
   repeat (go_big_quiet_step ((go_at_call 56;exact Calls.in_same (V5 _ _))))
   exact wpQuiet_nil rfl
  refine eoq 13 (fun wx Fx=>?_)
  replace E:=E.then Fx
  replace h6:=h6.up Fx
  replace A6:=A6.kept Fx
  clear Fx
  go_wp2_with fail
  refine (Ref.zi _ p q s _ A6).mono ?_;rintro e w6 ⟨rfl,A5,F5⟩
  clear A6
  have A6:=A5
  clear A5
  replace h6:=Ob.kept h6 F5 (by simp;exact ⟨hp,hq⟩)
  replace E:=zm E F5 (by simp)
  clear F5
  rw [hv]
  go_wp2_with fail
  refine ql ⟨E,?_⟩
  refine eoq 14 (fun wx Fx=>?_)
  replace E:=E.then Fx
  replace h6:=h6.up Fx
  replace A6:=A6.kept Fx
  clear Fx
  go_wp2_with fail
  refine ql ⟨E,?_⟩
  refine eoq 15 (fun wx Fx=>?_)
  replace E:=E.then Fx
  replace h6:=h6.up Fx
  replace A6:=A6.kept Fx
  clear Fx
  have D6:=D0.trans E
  have hlw:=D6.size
  have hb6:=h6.lt
  go_wp2_with fail
  refine (q2b x ⟨x.k,Va x.s,v⟩ b _ (by omega) h6 (sqT hs D6 hb hp2 hq2) hb).mono ?_;rintro e w6 ⟨rfl,⟨lv',h7,hs7,hg7⟩,F7⟩
  have A7:=A6.kept F7 (by simp;exact hp.symm) (by simp;exact hq.symm)
  replace E:=E.trans (F7.mono)
  clear h6 A6 F7 D6
  go_wp2_with fail
  refine ql ⟨E,?_⟩
  refine zr (by kernel_rfl) (fun wx Fx=>?_)
  replace h7:=h7.up Fx
  replace hs7:=hs7.up Fx
  replace A7:=A7.kept Fx
  have D7:=D0.trans (E.then Fx)
  clear Fx E
  have hbw:=h7.lt
  go_wp2_with fail
  refine (Qm ({ x with l:=q0y x.l ⟨x.k,Va x.s,v⟩,lv:=lv' }:Lok) hi b _ h7).mono ?_;rintro e w8 ⟨rfl,h8,F8⟩
  have A8:=A7.kept F8 (by simp;exact hp.symm) (by simp;exact hq.symm)
  have D8:=zm D7 F8 (by simp)
  have hs8:=hs7.kept F8 (fun g hg hi=>by rw [List.mem_singleton.1 hi] at hg;have:=hg7 _ hg;omega)
  clear h7 A7 hs7
  rw [Kt] at h8
  obtain ⟨-,-,-,-,-,-,-,-,c8,-,-,-,-,-,-⟩:=qw h8
  go_wp2_with fail
  go_ret
  exact ⟨rfl,⟨lv',h8,by rw [jf];exact hs8,.inr ⟨by rw [jf];exact q6j _ _,fun g hg=>qh hlw (hg7 g hg)⟩⟩,A8,D8⟩
 ·obtain rfl:=qi ho
  obtain ⟨-,-,-,-,-,-,-,-,-,-,-,c11,-,-,-⟩:=qw h6
  go_wp2_with fail
  clear c11
  refine ql ⟨E,?_⟩
  refine epq [false,false,false,false,false,false,false,false,false,true,false,false,false,false,false,false] 4 E ?_
  apply qg
  refine ⟨fun wf Ff=>?_,?_⟩
  ·simp only [sel]
   repeat (go_big_quiet_step ((go_at_call 56;exact Calls.in_same (V5 _ _))))
   exact wpQuiet_nil rfl
  refine jb [4,13] (by kernel_rfl) (by simp) (fun wx Fx m hm o ho=>?_)
  replace E:=E.then Fx
  replace h6:=h6.up Fx
  replace A6:=A6.kept Fx
  clear Fx
  simp only [List.mem_cons,List.not_mem_nil,or_false] at hm
  rcases hm with rfl | rfl
  focus
   obtain rfl:=qi ho
   obtain ⟨-,-,-,-,-,-,-,-,-,-,-,-,c12,-,-⟩:=qw h6
   go_wp2_with fail
   clear c12
   refine ql ⟨E,?_⟩
   refine eoq 13 (fun wx Fx=>?_)
   replace E:=E.then Fx
   replace h6:=h6.up Fx
   replace A6:=A6.kept Fx
   clear Fx
   go_wp2_with fail
   refine (Ref.zi _ p q s _ A6).mono ?_;rintro e w6 ⟨rfl,A5,F5⟩
   clear A6
   have A6:=A5
   clear A5
   replace h6:=Ob.kept h6 F5 (by simp;exact ⟨hp,hq⟩)
   replace E:=zm E F5 (by simp)
   clear F5
   rw [hv]
   go_wp2_with fail
  rotate_left
  focus
   obtain rfl:=qi ho
   go_wp2_with fail
   refine (Ref.zi _ p q s _ A6).mono ?_;rintro e w6 ⟨rfl,A5,F5⟩
   clear A6
   have A6:=A5
   clear A5
   replace h6:=Ob.kept h6 F5 (by simp;exact ⟨hp,hq⟩)
   replace E:=zm E F5 (by simp)
   clear F5
   rw [hv]
   go_wp2_with fail
   refine ql ⟨E,?_⟩
   refine eoq 4 (fun wx Fx=>?_)
   replace E:=E.then Fx
   replace h6:=h6.up Fx
   replace A6:=A6.kept Fx
   clear Fx
   obtain ⟨-,-,-,-,-,-,-,-,-,-,-,-,c12,-,-⟩:=qw h6
   go_wp2_with fail
   clear c12
  rotate_left
  all_goals
   refine ql ⟨E,?_⟩
   refine eoq 14 (fun wx Fx=>?_)
   replace E:=E.then Fx
   replace h6:=h6.up Fx
   replace A6:=A6.kept Fx
   clear Fx
   go_wp2_with fail
   refine ql ⟨E,?_⟩
   refine eoq 15 (fun wx Fx=>?_)
   replace E:=E.then Fx
   replace h6:=h6.up Fx
   replace A6:=A6.kept Fx
   clear Fx
   have D6:=D0.trans E
   have hlw:=D6.size
   have hb6:=h6.lt
   go_wp2_with fail
   refine (q2b x ⟨x.k,Va x.s,v⟩ b _ (by omega) h6 (sqT hs D6 hb hp2 hq2) hb).mono ?_;rintro e w6 ⟨rfl,⟨lv',h7,hs7,hg7⟩,F7⟩
   have A7:=A6.kept F7 (by simp;exact hp.symm) (by simp;exact hq.symm)
   replace E:=E.trans (F7.mono)
   clear h6 A6 F7 D6
   go_wp2_with fail
   refine ql ⟨E,?_⟩
   refine zr (by kernel_rfl) (fun wx Fx=>?_)
   replace h7:=h7.up Fx
   replace hs7:=hs7.up Fx
   replace A7:=A7.kept Fx
   have D7:=D0.trans (E.then Fx)
   clear Fx E
   have hbw:=h7.lt
   go_wp2_with fail
   refine (Qm ({ x with l:=q0y x.l ⟨x.k,Va x.s,v⟩,lv:=lv' }:Lok) hi b _ h7).mono ?_;rintro e w8 ⟨rfl,h8,F8⟩
   have A8:=A7.kept F8 (by simp;exact hp.symm) (by simp;exact hq.symm)
   have D8:=zm D7 F8 (by simp)
   have hs8:=hs7.kept F8 (fun g hg hi=>by rw [List.mem_singleton.1 hi] at hg;have:=hg7 _ hg;omega)
   clear h7 A7 hs7
   rw [Kt] at h8
   obtain ⟨-,-,-,-,-,-,-,-,c8,-,-,-,-,-,-⟩:=qw h8
   go_wp2_with fail
   go_ret
   exact ⟨rfl,⟨lv',h8,by rw [jf];exact hs8,.inr ⟨by rw [jf];exact q6j _ _,fun g hg=>qh hlw (hg7 g hg)⟩⟩,A8,D8⟩
theorem q35 (x:Lok) (hl:x.live=false) (b p q:Nat) (w:World) (h:xu w b x) :
  Calls Tryz.prog 49 #[.pointer (some ⟨b,0,none⟩),.pointer (some ⟨p,0,none⟩)] w fun e w'=>e = .returned (.bool (decide (x.line=0)))/\Fr [] w w':=by
 obtain ⟨c0,c1,c2,c3,c4,c5,c6,c7,c8,c9,c10,c11,c12,c13,c14⟩:=qw h
 unfold Lok.live at hl
 have l1:x.line≠1:=by intro h;rw [h] at hl;simp at hl
 have l2:x.line≠2:=by intro h;rw [h] at hl;simp at hl
 have l3:x.line≠3:=by intro h;rw [h] at hl;simp at hl
 have l4:x.line≠4:=by intro h;rw [h] at hl;simp at hl
 have l5:x.line≠5:=by intro h;rw [h] at hl;simp at hl
 have l6:x.line≠6:=by intro h;rw [h] at hl;simp at hl
 have l7:x.line≠7:=by intro h;rw [h] at hl;simp at hl
 clear hl
 go_enter Tryz.func49,Tryz.ntmps49
 go_wp2_with fail
 have k4:=qb c4
 have k9:=qb c9
 have hcl:=c8
 clear c0 c1 c2 c3 c4 c5 c6 c7 c8 c9 c10 c11 c12 c13 c14
 refine wiq ?_
 repeat (go_big_quiet_step ((go_at_call 54;exact Calls.in_same (xy _ _ _))))
 refine wpQuiet_nil ?_
 intro w0 F0
 have c8:=F0.cell hcl (by simp)
 go_wp2_with fail
 go_ret
 exact ⟨rfl,F0⟩
theorem q5n (x:Lok) (hc:x.c.Ok) (hi:-1<=x.i/\x.i<=100) (hlen:x.l.length<=900) (b p q:Nat) (s:St) (w:World) (h:xu w b x) (hA:Rar w p q s) (hp:b≠p) (hq:b≠q) (hs:Sq fT w x.lv x.l) (hb:b∉x.lv.ownBlock.toList) (hp2:p∉x.lv.ownBlock.toList) (hq2:q∉x.lv.ownBlock.toList) :
  Calls Tryz.prog 49 #[.pointer (some ⟨b,0,none⟩),.pointer (some ⟨p,0,none⟩)] w (Zz w x b p q (x.step s).1 (x.step s).2):=by
 unfold Lok.step
 cases hl:x.live with
 | false=>exact (q35 x hl b p q w h).mono (by rintro e w' ⟨rfl,F⟩;exact ⟨rfl,⟨x.lv,Ob.up h F,hs.up F,.inl rfl⟩,hA.kept F,F.mono⟩)
 | true =>
  unfold Lok.live at hl
  have hl':x.line=1\/x.line=2\/x.line=3\/x.line=4\/x.line=5\/x.line=6\/x.line=7:=by
   simp only [Bool.and_eq_true,decide_eq_true_eq] at hl;omega
  rw [qf rfl]
  rcases hl' with l | l | l | l | l | l | l
  ·rw [show x.act s=s.load (wrap64 (x.chunk+1)) by unfold Lok.act;simp [l],show x.told s=qq s.l (wrap64 (x.chunk+1)) by unfold Lok.told;simp [l]];exact q4e x l hc hi hlen b p q s w h hA hp hq hs hb hp2 hq2
  ·rw [show x.act s=s.load x.sa by unfold Lok.act;simp [l],show x.told s=qq s.l x.sa by unfold Lok.told;simp [l]];exact q3k x l hc hi hlen b p q s w h hA hp hq hs hb hp2 hq2
  ·rw [show x.act s=s.load (wrap64 (x.sa+1)) by unfold Lok.act;simp [l],show x.told s=qq s.l (wrap64 (x.sa+1)) by unfold Lok.told;simp [l]];exact q3b x l hc hi hlen b p q s w h hA hp hq hs hb hp2 hq2
  ·rw [show x.act s=s.load 1 by unfold Lok.act;simp [l],show x.told s=qq s.l 1 by unfold Lok.told;simp [l]];exact q2w x l hc hi hlen b p q s w h hA hp hq hs hb hp2 hq2
  ·rw [show x.act s=s.swap x.sa 1 (vq x.g) by unfold Lok.act;simp [l]];exact q2n x l hc hi hlen b p q s w h hA hp hq hs hb hp2 hq2
  ·rw [show x.act s=s.load x.sa by unfold Lok.act;simp [l],show x.told s=qq s.l x.sa by unfold Lok.told;simp [l]];exact q3q x l hc hi hlen b p q s w h hA hp hq hs hb hp2 hq2
  ·rw [show x.act s=s.load (wrap64 (x.sa+2)) by unfold Lok.act;simp [l],show x.told s=qq s.l (wrap64 (x.sa+2)) by unfold Lok.told;simp [l]];exact q42 x l hc hi hlen b p q s w h hA hp hq hs hb hp2 hq2
structure Wk where
 c:Cf
 key:Int
 line:Int
 x:Int
 cur:Int
 n:Int
 at_:Int
def Wk.cells (x:Wk):Array Value:=#[.int .i64 x.c.t,.int .i64 x.c.c,.int .i64 x.c.wd,.int .i64 x.c.v,.int .i64 x.key,.int .i64 x.line,.int .i64 x.x,.int .i64 x.cur,.int .i64 x.n,.int .i64 x.at_]
def Wk.new (c:Cf) (key:Int):Wk:=⟨c,key,1,0,0,0,0⟩
def Wk.head (x:Wk):Wk:={ x with cur:=xm x.c,line:=5 }
def Wk.ends (x:Wk):Wk:={ x with at_:=x.cur,line:=0 }
def Wk.looks (x:Wk):Int :=
 if x.line=1 then Zw x.c x.key else if x.line=2 then wrap64 (x.x+6) else if x.line=3 then wrap64 x.x else if x.line=5 then wrap64 (x.cur+2) else wrap64 x.n
def Wk.next (x:Wk) (v:Int):Wk :=
 if x.line=1 then (if v=0 then { x with x:=v,line:=2 }.head else { x with x:=v,line:=2 })
 else if x.line=2 then (if v=0 then { x with line:=3 } else { x with line:=3 }.head)
 else if x.line=3 then (if v<=x.key then { x with cur:=x.x,line:=5 } else x.head)
 else if x.line=5 then (if atW v=0 then { x with n:=0,line:=6 }.ends else { x with n:=atW v,line:=6 })
 else (if v<=x.key then { x with cur:=x.n,line:=5 } else x.ends)
def Wk.live (x:Wk):Bool:=decide (x.line=1) || decide (x.line=2) || decide (x.line=3) || decide (x.line=5) || decide (x.line=6)
def Wk.step (x:Wk) (s:St):Wk×St:=if x.live=true then (x.next (qq s.l x.looks),s.load x.looks) else (x,s)
def Qy (w:World) (b:Nat) (x:Wk):Prop:=Ob w b 217 x.cells
theorem xd {w:World} {b:Nat} {x:Wk} (h:Qy w b x):w.cell? ⟨b,0,none⟩=some (.int .i64 x.c.t)/\w.cell? ⟨b,1,none⟩=some (.int .i64 x.c.c)/\w.cell? ⟨b,2,none⟩=some (.int .i64 x.c.wd)/\w.cell? ⟨b,3,none⟩=some (.int .i64 x.c.v)/\w.cell? ⟨b,4,none⟩=some (.int .i64 x.key)/\w.cell? ⟨b,5,none⟩=some (.int .i64 x.line)/\w.cell? ⟨b,6,none⟩=some (.int .i64 x.x)/\w.cell? ⟨b,7,none⟩=some (.int .i64 x.cur)/\w.cell? ⟨b,8,none⟩=some (.int .i64 x.n)/\w.cell? ⟨b,9,none⟩=some (.int .i64 x.at_) :=
 ⟨h.cell rfl,h.cell rfl,h.cell rfl,h.cell rfl,h.cell rfl,h.cell rfl,h.cell rfl,h.cell rfl,h.cell rfl,h.cell rfl⟩
theorem Zo (c:Cf) (key:Int) (w:World):Calls Tryz.prog 160 #[c.val,.int .i64 key] w fun e w'=>∃ b,e = .returned (.pointer (some ⟨b,0,none⟩))/\w.heap.size<=b/\Qy w' b (Wk.new c key)/\Fr [] w w':=by
 unfold Cf.val
 have F0:=(Fr.refl [] w).alloc (.cells #[.int .i64 c.t,.int .i64 c.c,.int .i64 c.wd,.int .i64 c.v] 23)
 obtain ⟨c0,c1,c2,c3⟩:=Pl.yf (Go.heap_alloc_new w (.cells #[.int .i64 c.t,.int .i64 c.c,.int .i64 c.wd,.int .i64 c.v] 23))
 go_enter Tryz.func160,Tryz.ntmps160
 go_wp2
 go_ret
 exact ⟨_,rfl,by omega,Ob.newAt (Vg _ _) _ _,F0.alloc _⟩
theorem Ju (x:Wk) (hc:x.c.Ok) (b:Nat) (w:World) (h:Qy w b x):Calls Tryz.prog 191 #[.pointer (some ⟨b,0,none⟩)] w fun e w'=>e = .returned (.tuple #[])/\Qy w' b x.head/\Fr [b] w w':=by
 obtain ⟨c0,c1,c2,c3,-,-,-,-,-,-⟩:=xd h
 have z:=h.frozen
 go_enter Tryz.func191,Tryz.ntmps191
 go_wp2_with fail
 refine (Ref.Q5 x.c.t x.c.c x.c.wd x.c.v hc.t1 hc.t8 _).mono ?_;rintro e w1 ⟨rfl,F1⟩
 have h1:Qy w1 b x:=h.up F1
 have z1:=h1.frozen
 clear c0 c1 c2 c3 z
 obtain ⟨-,-,-,-,-,c5,-,c7,-,-⟩:=xd h1
 go_wp2
 go_end0
 exact ⟨rfl,by
  have e:3+x.c.t+4=xm x.c:=by unfold xm;omega
  rw [e];exact (h1.set _).set _,(F1.mono).trans ((Fr.setCell _ (by simp)).setCell' _ (by simp))⟩
theorem Tz (x:Wk) (b:Nat) (w:World) (h:Qy w b x):Calls Tryz.prog 192 #[.pointer (some ⟨b,0,none⟩)] w fun e w'=>e = .returned (.tuple #[])/\Qy w' b x.ends/\Fr [b] w w':=by
 obtain ⟨-,-,-,-,-,c5,-,c7,-,c9⟩:=xd h
 have z:=h.frozen
 go_enter Tryz.func192,Tryz.ntmps192
 go_wp2
 go_end0
 exact ⟨rfl,(h.set _).set _,(Fr.setCell _ (by simp)).setCell' _ (by simp)⟩
theorem q2i (x:Wk) (hl:x.line=1) (hc:x.c.Ok) (hk:0<=x.key/\x.key<=63) (b p q:Nat) (s:St) (w:World) (h:Qy w b x) (hA:Rar w p q s) (hp:b≠p) (hq:b≠q) :
  Calls Tryz.prog 165 #[.pointer (some ⟨b,0,none⟩),.pointer (some ⟨p,0,none⟩)] w fun e w'=>e = .returned (.bool (decide ((x.next (qq s.l (Zw x.c x.key))).line=0)))/\Qy w' b (x.next (qq s.l (Zw x.c x.key)))/\Rar w' p q (s.load (Zw x.c x.key))/\Fr [b,p,q] w w':=by
 generalize hy:x.next (qq s.l (Zw x.c x.key))=y
 have HY:=q9 hy
 clear hy
 obtain ⟨c0,c1,c2,c3,c4,c5,c6,c7,c8,c9⟩:=xd h
 go_enter Tryz.func165,Tryz.ntmps165
 go_wp2_with fail
 clear c0 c1 c2 c3 c4 c5 c6 c7 c8 c9
 have hkw:(Lit.int .i64 x.key).wf=true:=WalkArith.wf_i64 (by omega)
 refine qo (by kernel_rfl) ?_
 refine yh 1 rfl (by kernel_rfl) (by kernel_rfl) (by kernel_rfl) rfl (fun _ _ d _ _ h=>by cases d <;> exact h) ?_
 go_frame
 refine z6 [p,q] w #[true,true,true,true,true,true,true,true,true,true,true,true,true,false,false,false,false,false,false] 12 6 rfl ?_
 refine lpq [true,false,true,true,true,true,true,true,true,true,true,true,false,false,false,false,false,false,false] 1 ((Fr.refl _ w).drew) ?_
 apply qg
 refine ⟨fun wf Ff=>?_,?_⟩
 ·have hf:Qy wf b x:=Ob.kept h Ff (by simp;exact ⟨hp,hq⟩)
  obtain ⟨c0,c1,c2,c3,c4,-,-,-,-,-⟩:=xd hf
  have k0:=qb c0
  have k1:=qb c1
  have k2:=qb c2
  have k3:=qb c3
  have k4:=qb c4
  clear c0 c1 c2 c3 c4
  simp only [sel]
  repeat (go_big_quiet_step ((go_at_call 42;exact Calls.in_ (Ref.Ja x.c.t x.c.c x.c.wd x.c.v x.key hc.t1 hc.t8 hk.1 hk.2 _))))
  exact wpQuiet_nil rfl
 refine loq 12 (fun w3 F3=>?_)
 have D3:=(Fr.refl [] w).drew.trans F3
 have A3:=hA.kept D3
 have h3:=Ob.up h D3
 clear hA h F3
 go_wp2_with fail
 refine (Ref.zi _ p q s _ A3).mono ?_;rintro e w4 ⟨rfl,A4,F4⟩
 go_wp2_with fail
 refine ql ⟨(D3.mono).trans F4,?_⟩
 refine qx (k:=13) rfl (by kernel_rfl) (fun w5 F5=>?_)
 have A5:=A4.kept F5
 have h5:Qy w5 b x:=(h3.kept F4 (by simp;exact ⟨hp,hq⟩)).up F5
 have D5:Fr [b,p,q] w w5:=((D3.mono).trans (F4.mono)).then F5
 clear A3 A4 h3 F4 F5 D3
 have e2:3+x.c.t+x.key / 16=Zw x.c x.key:=rfl
 rw [e2] at A5 ⊢
 obtain ⟨c0,c1,c2,c3,c4,c5,c6,c7,c8,c9⟩:=xd h5
 have z:=h5.frozen
 generalize hv:qq s.l (Zw x.c x.key)=v at *
 by_cases hv0:v=0
 ·have hn:y=({ x with x:=0,line:=2 }:Wk).head:=by rw [<- HY.out];subst hv0;unfold Wk.next;simp [hl]
  subst hn
  go_wp2_with fail
  have h6:Qy _ b ({ x with x:=0,line:=2 }:Wk):=(h5.set (i:=6) (.int .i64 0)).set (i:=5) (.int .i64 2)
  have A6:=(A5.set hp hq (i:=6) (.int .i64 0)).set hp hq (i:=5) (.int .i64 2)
  have D6:=(D5.setCell' (b:=b) (i:=6) (.int .i64 0) (by simp)).setCell' (b:=b) (i:=5) (.int .i64 2) (by simp)
  generalize ((w5.setCell ⟨b,6,none⟩ (.int .i64 0)).setCell ⟨b,5,none⟩ (.int .i64 2))=w6 at *
  clear c0 c1 c2 c3 c4 c5 c6 c7 c8 c9 z h5 A5 D5
  refine (Ju { x with x:=0,line:=2 } hc b _ h6).mono ?_;rintro e w7 ⟨rfl,h7,F7⟩
  have A7:=A6.kept F7 (by simp;exact hp.symm) (by simp;exact hq.symm)
  have D7:=zm D6 F7 (by simp)
  clear h6 A6 D6 F7
  obtain ⟨-,-,-,-,-,c5,-,-,-,-⟩:=xd h7
  go_wp2
  go_ret
  exact ⟨rfl,h7,A7,D7⟩
 ·have hn:y = { x with x:=v,line:=2 }:=by rw [<- HY.out];unfold Wk.next;simp [hl,hv0]
  subst hn
  go_wp2_with fail
  go_ret
  exact ⟨rfl,(h5.set _).set _,(A5.set hp hq _).set hp hq _,(D5.setCell' _ (by simp)).setCell' _ (by simp)⟩
theorem q3v (x:Wk) (hl:x.line=2) (hc:x.c.Ok) (b p q:Nat) (s:St) (w:World) (h:Qy w b x) (hA:Rar w p q s) (hp:b≠p) (hq:b≠q) :
  Calls Tryz.prog 165 #[.pointer (some ⟨b,0,none⟩),.pointer (some ⟨p,0,none⟩)] w fun e w'=>e = .returned (.bool (decide ((x.next (qq s.l (wrap64 (x.x+6)))).line=0)))/\Qy w' b (x.next (qq s.l (wrap64 (x.x+6))))/\Rar w' p q (s.load (wrap64 (x.x+6)))/\Fr [b,p,q] w w':=by
 generalize hy:x.next (qq s.l (wrap64 (x.x+6)))=y
 have HY:=q9 hy
 clear hy
 obtain ⟨c0,c1,c2,c3,c4,c5,c6,c7,c8,c9⟩:=xd h
 have z:=h.frozen
 go_enter Tryz.func165,Tryz.ntmps165
 go_wp2_with fail
 have A1:=hA.set hp hq (i:=5) (.int .i64 3)
 have h1:Qy _ b ({ x with line:=3 }:Wk):=Ob.set h (i:=5) (.int .i64 3)
 have D1:Fr [b,p,q] w (w.setCell ⟨b,5,none⟩ (.int .i64 3)):=Fr.setCell (b:=b) _ (by simp)
 clear c0 c1 c2 c3 c4 c5 c6 c7 c8 c9 z
 generalize (w.setCell ⟨b,5,none⟩ (.int .i64 3))=w1 at *
 refine (Ref.zi _ p q s _ A1).mono ?_;rintro e w5 ⟨rfl,A5,F5⟩
 have h5:=Ob.kept h1 F5 (by simp;exact ⟨hp,hq⟩)
 have D5:=zm D1 F5 (by simp)
 clear A1 h1 D1 F5 hA h
 obtain ⟨c0,c1,c2,c3,c4,c5,c6,c7,c8,c9⟩:=xd h5
 generalize hv:qq s.l (wrap64 (x.x+6))=v at *
 by_cases hv0:v=0
 ·have hn:y = { x with line:=3 }:=by rw [<- HY.out];subst hv0;unfold Wk.next;simp [hl]
  subst hn
  go_wp2_with fail
  go_ret
  exact ⟨rfl,h5,A5,D5⟩
 ·have hn:y=({ x with line:=3 }:Wk).head:=by rw [<- HY.out];unfold Wk.next;simp [hl,hv0]
  subst hn
  go_wp2_with fail
  refine (Ju { x with line:=3 } hc b _ h5).mono ?_;rintro e w7 ⟨rfl,h7,F7⟩
  have A7:=(A5).kept F7 (by simp;exact hp.symm) (by simp;exact hq.symm)
  have D7:=zm (D5) F7 (by simp)
  obtain ⟨-,-,-,-,-,c5,-,-,-,-⟩:=xd h7
  go_wp2
  go_ret
  exact ⟨rfl,h7,A7,D7⟩
theorem q3n (x:Wk) (hl:x.line=3) (hc:x.c.Ok) (b p q:Nat) (s:St) (w:World) (h:Qy w b x) (hA:Rar w p q s) (hp:b≠p) (hq:b≠q) :
  Calls Tryz.prog 165 #[.pointer (some ⟨b,0,none⟩),.pointer (some ⟨p,0,none⟩)] w fun e w'=>e = .returned (.bool (decide ((x.next (qq s.l (wrap64 x.x))).line=0)))/\Qy w' b (x.next (qq s.l (wrap64 x.x)))/\Rar w' p q (s.load (wrap64 x.x))/\Fr [b,p,q] w w':=by
 generalize hy:x.next (qq s.l (wrap64 x.x))=y
 have HY:=q9 hy
 clear hy
 obtain ⟨c0,c1,c2,c3,c4,c5,c6,c7,c8,c9⟩:=xd h
 have z:=h.frozen
 go_enter Tryz.func165,Tryz.ntmps165
 go_wp2_with fail
 clear c0 c1 c2 c3 c4 c5 c6 c7 c8 c9 z
 refine qy (by kernel_rfl) [p,q] (fun w2 F2=>?_)
 refine epq [true,true,true,true,true,true,false,true,true,true,true,false] 2 (F2.mono) ?_
 apply qg
 refine ⟨fun wf Ff=>?_,?_⟩
 ·have hf:Qy wf b x:=Ob.kept h Ff (by simp;exact ⟨hp,hq⟩)
  obtain ⟨-,-,-,-,c4,-,c6,-,c8,-⟩:=xd hf
  have k4:=qb c4
  have k6:=qb c6
  have k8:=qb c8
  clear c4 c6 c8
  simp only [sel]
  repeat (go_big_quiet_step (fail))
  exact wpQuiet_nil rfl
 refine eoq 6 (fun w3 F3=>?_)
 have D3:=F2.trans F3
 have A3:=hA.kept D3
 have h3:=Ob.up h D3
 clear hA h F2 F3
 go_wp2_with fail
 refine (Ref.zi _ p q s _ A3).mono ?_;rintro e w4 ⟨rfl,A4,F4⟩
 have D4:=(D3.mono (T:=[p,q]) (by simp)).trans F4
 have h4:=h3.kept F4 (by simp;exact ⟨hp,hq⟩)
 clear A3 h3 F4 D3
 go_wp2_with fail
 refine ql ⟨D4,?_⟩
 refine eoq 11 (fun w5 F5=>?_)
 have D5:=D4.then F5
 have h5:=h4.up F5
 have A5:=A4.kept F5
 clear A4 h4 F5 D4
 go_wp2
 refine ql ⟨D5,?_⟩
 refine zr (by kernel_rfl) (fun w6 F6=>?_)
 have D6:Fr [b,p,q] w w6:=(D5.then F6).mono (by simp)
 have h6:Qy w6 b x:=h5.up F6
 have A6:=A5.kept F6
 clear A5 h5 F6 D5
 obtain ⟨c0,c1,c2,c3,c4,c5,c6,c7,c8,c9⟩:=xd h6
 have z:=h6.frozen
 generalize hv:qq s.l (wrap64 x.x)=v at *
 by_cases hv0:v<=x.key
 ·have hn:y = { x with cur:=x.x,line:=5 }:=by rw [<- HY.out];unfold Wk.next;simp [hl,hv0]
  subst hn
  have g:decide (v<=x.key)=true:=by simpa using hv0
  go_wp2_with fail
  go_ret
  exact ⟨rfl,(h6.set _).set _,(A6.set hp hq _).set hp hq _,(D6.setCell' _ (by simp)).setCell' _ (by simp)⟩
 ·have hn:y=x.head:=by rw [<- HY.out];unfold Wk.next;simp [hl,hv0]
  subst hn
  have g:decide (v<=x.key)=false:=by simpa using hv0
  go_wp2_with fail
  refine (Ju x hc b _ h6).mono ?_;rintro e w7 ⟨rfl,h7,F7⟩
  have A7:=(A6).kept F7 (by simp;exact hp.symm) (by simp;exact hq.symm)
  have D7:=zm (D6) F7 (by simp)
  obtain ⟨-,-,-,-,-,c5,-,-,-,-⟩:=xd h7
  go_wp2
  go_ret
  exact ⟨rfl,h7,A7,D7⟩
theorem q36 (x:Wk) (hl:x.line=6) (hc:x.c.Ok) (b p q:Nat) (s:St) (w:World) (h:Qy w b x) (hA:Rar w p q s) (hp:b≠p) (hq:b≠q) :
  Calls Tryz.prog 165 #[.pointer (some ⟨b,0,none⟩),.pointer (some ⟨p,0,none⟩)] w fun e w'=>e = .returned (.bool (decide ((x.next (qq s.l (wrap64 x.n))).line=0)))/\Qy w' b (x.next (qq s.l (wrap64 x.n)))/\Rar w' p q (s.load (wrap64 x.n))/\Fr [b,p,q] w w':=by
 generalize hy:x.next (qq s.l (wrap64 x.n))=y
 have HY:=q9 hy
 clear hy
 obtain ⟨c0,c1,c2,c3,c4,c5,c6,c7,c8,c9⟩:=xd h
 have z:=h.frozen
 go_enter Tryz.func165,Tryz.ntmps165
 go_wp2_with fail
 clear c0 c1 c2 c3 c4 c5 c6 c7 c8 c9 z
 refine qy (by kernel_rfl) [p,q] (fun w2 F2=>?_)
 refine epq [true,true,true,true,true,true,false,true,true,true,true,false] 2 (F2.mono) ?_
 apply qg
 refine ⟨fun wf Ff=>?_,?_⟩
 ·have hf:Qy wf b x:=Ob.kept h Ff (by simp;exact ⟨hp,hq⟩)
  obtain ⟨-,-,-,-,c4,-,c6,-,c8,-⟩:=xd hf
  have k4:=qb c4
  have k6:=qb c6
  have k8:=qb c8
  clear c4 c6 c8
  simp only [sel]
  repeat (go_big_quiet_step (fail))
  exact wpQuiet_nil rfl
 refine eoq 6 (fun w3 F3=>?_)
 have D3:=F2.trans F3
 have A3:=hA.kept D3
 have h3:=Ob.up h D3
 clear hA h F2 F3
 go_wp2_with fail
 refine (Ref.zi _ p q s _ A3).mono ?_;rintro e w4 ⟨rfl,A4,F4⟩
 have D4:=(D3.mono (T:=[p,q]) (by simp)).trans F4
 have h4:=h3.kept F4 (by simp;exact ⟨hp,hq⟩)
 clear A3 h3 F4 D3
 go_wp2_with fail
 refine ql ⟨D4,?_⟩
 refine eoq 11 (fun w5 F5=>?_)
 have D5:=D4.then F5
 have h5:=h4.up F5
 have A5:=A4.kept F5
 clear A4 h4 F5 D4
 go_wp2
 refine ql ⟨D5,?_⟩
 refine zr (by kernel_rfl) (fun w6 F6=>?_)
 have D6:Fr [b,p,q] w w6:=(D5.then F6).mono (by simp)
 have h6:Qy w6 b x:=h5.up F6
 have A6:=A5.kept F6
 clear A5 h5 F6 D5
 obtain ⟨c0,c1,c2,c3,c4,c5,c6,c7,c8,c9⟩:=xd h6
 have z:=h6.frozen
 generalize hv:qq s.l (wrap64 x.n)=v at *
 by_cases hv0:v<=x.key
 ·have hn:y = { x with cur:=x.n,line:=5 }:=by rw [<- HY.out];unfold Wk.next;simp [hl,hv0]
  subst hn
  have g:decide (v<=x.key)=true:=by simpa using hv0
  go_wp2_with fail
  go_ret
  exact ⟨rfl,(h6.set _).set _,(A6.set hp hq _).set hp hq _,(D6.setCell' _ (by simp)).setCell' _ (by simp)⟩
 ·have hn:y=x.ends:=by rw [<- HY.out];unfold Wk.next;simp [hl,hv0]
  subst hn
  have g:decide (v<=x.key)=false:=by simpa using hv0
  go_wp2_with fail
  refine (Tz _ b _ h6).mono ?_;rintro e w7 ⟨rfl,h7,F7⟩
  have A7:=(A6).kept F7 (by simp;exact hp.symm) (by simp;exact hq.symm)
  have D7:=zm (D6) F7 (by simp)
  obtain ⟨-,-,-,-,-,c5,-,-,-,-⟩:=xd h7
  go_wp2
  go_ret
  exact ⟨rfl,h7,A7,D7⟩
theorem q46 (x:Wk) (hl:x.line=5) (hc:x.c.Ok) (b p q:Nat) (s:St) (w:World) (h:Qy w b x) (hA:Rar w p q s) (hp:b≠p) (hq:b≠q) :
  Calls Tryz.prog 165 #[.pointer (some ⟨b,0,none⟩),.pointer (some ⟨p,0,none⟩)] w fun e w'=>e = .returned (.bool (decide ((x.next (qq s.l (wrap64 (x.cur+2)))).line=0)))/\Qy w' b (x.next (qq s.l (wrap64 (x.cur+2))))/\Rar w' p q (s.load (wrap64 (x.cur+2)))/\Fr [b,p,q] w w':=by
 generalize hy:x.next (qq s.l (wrap64 (x.cur+2)))=y
 have HY:=q9 hy
 clear hy
 obtain ⟨c0,c1,c2,c3,c4,c5,c6,c7,c8,c9⟩:=xd h
 have z:=h.frozen
 go_enter Tryz.func165,Tryz.ntmps165
 go_wp2_with fail
 refine (Ref.zi _ p q s _ hA).mono ?_;rintro e w5 ⟨rfl,A5,F5⟩
 have h5:Qy w5 b x:=Ob.kept h F5 (by simp;exact ⟨hp,hq⟩)
 have D5:Fr [b,p,q] w w5:=F5.mono
 clear c0 c1 c2 c3 c4 c5 c6 c7 c8 c9 z
 clear F5 hA h
 go_wp2_with fail
 refine (Vn _ _).mono ?_;rintro e _ ⟨rfl,rfl⟩
 obtain ⟨c0,c1,c2,c3,c4,c5,c6,c7,c8,c9⟩:=xd h5
 have z:=h5.frozen
 generalize hv:atW (qq s.l (wrap64 (x.cur+2)))=v at *
 by_cases hv0:v=0
 ·have hn:y=({ x with n:=0,line:=6 }:Wk).ends:=by rw [<- HY.out];unfold Wk.next;simp [hl,hv,hv0]
  subst hn
  go_wp2_with fail
  have h6:Qy _ b ({ x with n:=0,line:=6 }:Wk):=(h5.set (i:=8) (.int .i64 0)).set (i:=5) (.int .i64 6)
  have A6:=(A5.set hp hq (i:=8) (.int .i64 0)).set hp hq (i:=5) (.int .i64 6)
  have D6:=(D5.setCell' (b:=b) (i:=8) (.int .i64 0) (by simp)).setCell' (b:=b) (i:=5) (.int .i64 6) (by simp)
  generalize ((w5.setCell ⟨b,8,none⟩ (.int .i64 0)).setCell ⟨b,5,none⟩ (.int .i64 6))=w6 at *
  clear c0 c1 c2 c3 c4 c5 c6 c7 c8 c9 z h5 A5 D5
  refine (Tz _ b _ h6).mono ?_;rintro e w7 ⟨rfl,h7,F7⟩
  have A7:=(A6).kept F7 (by simp;exact hp.symm) (by simp;exact hq.symm)
  have D7:=zm (D6) F7 (by simp)
  obtain ⟨-,-,-,-,-,c5,-,-,-,-⟩:=xd h7
  go_wp2
  go_ret
  exact ⟨rfl,h7,A7,D7⟩
 ·have hn:y = { x with n:=v,line:=6 }:=by rw [<- HY.out];unfold Wk.next;simp [hl,hv,hv0]
  subst hn
  go_wp2_with fail
  go_ret
  exact ⟨rfl,(h5.set _).set _,(A5.set hp hq _).set hp hq _,(D5.setCell' _ (by simp)).setCell' _ (by simp)⟩
theorem q38 (x:Wk) (hl:x.live=false) (b p q:Nat) (w:World) (h:Qy w b x) :
  Calls Tryz.prog 165 #[.pointer (some ⟨b,0,none⟩),.pointer (some ⟨p,0,none⟩)] w fun e w'=>e = .returned (.bool (decide (x.line=0)))/\w=w':=by
 obtain ⟨-,-,-,-,-,c5,-,-,-,-⟩:=xd h
 unfold Wk.live at hl
 simp only [Bool.or_eq_false_iff] at hl
 obtain ⟨⟨⟨⟨l1,l2⟩,l3⟩,l5⟩,l6⟩:=hl
 go_enter Tryz.func165,Tryz.ntmps165
 simp only [decide_eq_false_iff_not] at l1 l2 l3 l5 l6
 go_wp2_with fail
 go_ret
 exact ⟨rfl,rfl⟩
theorem Js (x:Wk) (hc:x.c.Ok) (hk:0<=x.key/\x.key<=63) (b p q:Nat) (s:St) (w:World) (h:Qy w b x) (hA:Rar w p q s) (hp:b≠p) (hq:b≠q) :
  Calls Tryz.prog 165 #[.pointer (some ⟨b,0,none⟩),.pointer (some ⟨p,0,none⟩)] w fun e w'=>e = .returned (.bool (decide ((x.step s).1.line=0)))/\Qy w' b (x.step s).1/\Rar w' p q (x.step s).2/\Fr [b,p,q] w w':=by
 unfold Wk.step
 cases hl:x.live with
 | false=>exact (q38 x hl b p q w h).mono (by rintro e w' ⟨rfl,rfl⟩;exact ⟨rfl,h,hA,Fr.refl _ _⟩)
 | true =>
  unfold Wk.live at hl
  simp only [Bool.or_eq_true,decide_eq_true_eq] at hl
  rcases hl with (((l | l) | l) | l) | l
  ·rw [qf rfl,show x.looks=Zw x.c x.key by unfold Wk.looks;simp [l]];exact q2i x l hc hk b p q s w h hA hp hq
  ·rw [qf rfl,show x.looks=wrap64 (x.x+6) by unfold Wk.looks;simp [l]];exact q3v x l hc b p q s w h hA hp hq
  ·rw [qf rfl,show x.looks=wrap64 x.x by unfold Wk.looks;simp [l]];exact q3n x l hc b p q s w h hA hp hq
  ·rw [qf rfl,show x.looks=wrap64 (x.cur+2) by unfold Wk.looks;simp [l]];exact q46 x l hc b p q s w h hA hp hq
  ·rw [qf rfl,show x.looks=wrap64 x.n by unfold Wk.looks;simp [l]];exact q36 x l hc b p q s w h hA hp hq
def ins (l:List Int) (v:Int):List Int :=
 match l with
 | []=>[v]
 | x :: r=>if x<v then x :: ins r v else if x=v then x :: r else v :: x :: r
theorem q7s {l:List Int} {v:Int} {k:Nat} (h1:∀ i x,i<k->l[i]? = some x->x<v) (h2:l[k]? = some v):ins l v=l:=by
 induction l generalizing k with
 | nil=>simp at h2
 | cons x r ih =>
  unfold ins
  cases k with
  | zero=>simp at h2;subst h2;simp
  | succ k =>
   rw [qf (h1 0 x (by omega) rfl),ih (k:=k) (fun i y hi hy=>h1 (i+1) y (by omega) hy) (by simpa using h2)]
theorem q6q {l:List Int} {v:Int} {k:Nat} (hk:k<=l.length) (h1:∀ i x,i<k->l[i]? = some x->x<v) (h2:∀ x,l[k]? = some x->v<x):ins l v=l.take k++[v]++l.drop k:=by
 induction l generalizing k with
 | nil=>simp at hk;subst hk;rfl
 | cons x r ih =>
  unfold ins
  cases k with
  | zero =>
   have:=h2 x rfl
   rw [qd (by omega),qd (by omega)];rfl
  | succ k =>
   rw [qf (h1 0 x (by omega) rfl),ih (k:=k) (by simpa using hk) (fun i y hi hy=>h1 (i+1) y (by omega) hy) (fun y hy=>h2 y (by simpa using hy))]
   simp
structure NdB where
 c:Cf
 t:Int
 line:Int
 e:Int
 v:Int
 l:List Int
def NdB.cells (x:NdB) (lv:Value):Array Value:=#[.int .i64 x.c.t,.int .i64 x.c.c,.int .i64 x.c.wd,.int .i64 x.c.v,.int .i64 x.t,.int .i64 x.line,.int .i64 x.e,.int .i64 x.v,lv]
theorem Y5 {w:World} {b:Nat} {x:NdB} {lv:Value} (h:Ob w b 277 (x.cells lv)):w.cell? ⟨b,0,none⟩=some (.int .i64 x.c.t)/\w.cell? ⟨b,1,none⟩=some (.int .i64 x.c.c)/\w.cell? ⟨b,2,none⟩=some (.int .i64 x.c.wd)/\w.cell? ⟨b,3,none⟩=some (.int .i64 x.c.v)/\w.cell? ⟨b,4,none⟩=some (.int .i64 x.t)/\w.cell? ⟨b,5,none⟩=some (.int .i64 x.line)/\w.cell? ⟨b,6,none⟩=some (.int .i64 x.e)/\w.cell? ⟨b,7,none⟩=some (.int .i64 x.v)/\w.cell? ⟨b,8,none⟩=some lv :=
 ⟨h.cell rfl,h.cell rfl,h.cell rfl,h.cell rfl,h.cell rfl,h.cell rfl,h.cell rfl,h.cell rfl,h.cell rfl⟩
def MetAt (l:List Int) (v:Int) (u:Value) (w wr:World):Prop:=∃ k,k<=l.length/\u = .int .i64 (k:Nat)/\wr=w/\∀ i x,i<k->l[i]? = some x->x<v
theorem q7b (x:NdB) (v:Int) (b:Nat) (lv:Value) (w:World) (hl:x.l.length<=1000) (h:Ob w b 277 (x.cells lv)) (hs:Sq fI w lv x.l) (hb:b∉lv.ownBlock.toList) :
  Calls Tryz.prog 225 #[.pointer (some ⟨b,0,none⟩),.int .i64 v] w fun e w'=>e = .returned (.tuple #[])/\(∃ lv',Ob w' b 277 (({ x with l:=ins x.l v }:NdB).cells lv')/\Sq fI w' lv' (ins x.l v)/\(lv'=lv\/∀ g,g∈lv'.ownBlock.toList->w.heap.size<=g))/\Fr [b] w w':=by
 obtain ⟨a,cap,rfl,hcap,hmax,hc⟩:=id hs
 obtain ⟨-,-,-,-,-,-,-,-,c8⟩:=Y5 h
 have HC:=q9 hc
 clear hc
 go_enter Tryz.func225,Tryz.ntmps225
 go_wp2_with fail
 go_loopw [4] (fun u wr=>MetAt x.l v u w wr) (fun u _=>x.l.length - (intOf u).toNat)
 case atStart=>exact ⟨0,Nat.zero_le _,rfl,rfl,by omega⟩
 case round =>
  obtain ⟨k,hk,rfl,rfl,h1⟩:=hrel
  by_cases hlt:k<x.l.length
  ·obtain ⟨y,hy⟩:∃ y,x.l[k]? = some y:=⟨x.l[k],List.getElem?_eq_getElem hlt⟩
   obtain ⟨-,g,off,rfl,hcell⟩:=Sq.cell yc hs hy
   have d0:=hcell 0 (.int .i64 y) rfl
   rw [Nat.mul_one,Nat.add_zero] at d0
   by_cases hyv:y<v
   ·have g1:decide (y<v)=true:=by simpa using hyv
    go_wp2_with fail
    go_roundw
    case rel=>exact ⟨k+1,by omega,by go_num,rfl,fun i z hi hz=>by
     by_cases e:i=k
     ·subst e;rw [hy] at hz;cases hz;exact hyv
     ·exact h1 i z (by omega) hz⟩
    case measure=>simp [intOf];omega
   have g1:decide (y<v)=false:=by simpa using hyv
   by_cases he:y=v
   ·subst he
    have hi:=q7s h1 hy
    have HI:=q9 hi
    clear hi
    have b0:(((k:Nat):Int) == ((x.l.length:Nat):Int))=false:=by simp;omega
    go_wp2_with fail
    go_end0
    exact ⟨rfl,⟨_,by rw [HI.out];exact h,by rw [HI.out];exact hs,.inl rfl⟩,Fr.refl _ _⟩
   have hn:=q9 (q6q (by omega) h1 (fun z hz=>by rw [hy] at hz;cases hz;omega))
   have b0:(((k:Nat):Int) == ((x.l.length:Nat):Int))=false:=by simp;omega
   have b1:(y != v)=true:=by simpa using he
   go_wp2_with fail
   have HS:=q9 hs
   clear c8 hs
   refine qo (by kernel_rfl) ?_
   refine z6 [] wr #[true,true,true,true,true,true,true,true,true,true,true,true,true,true,true,true,true,true,false,false,false] 18 3 rfl ?_
   refine lpq [true,true,true,true,true,true,true,false,true,false,false,true,true,true,true,true,true,false,false,false,false] 4 ((Fr.refl _ wr).drew) ?_
   apply qg
   refine ⟨fun wf Ff=>?_,?_⟩
   ·obtain ⟨-,-,-,-,-,-,-,-,c8⟩:=Y5 (h.up Ff)
    have k8:=qb c8
    clear c8
    simp only [sel]
    repeat (go_big_quiet_step (fail))
    exact wpQuiet_nil rfl
   have HS1:=q9 (Sq.take yc HS.out k (by omega))
   have HS2:=q9 (Sq.drop yc HS.out k (by omega))
   rw [Nat.mul_one] at HS2
   have HT:=q9 (show (x.l.take k).length<=1000/\(x.l.drop k).length<=1000/\ins x.l v=x.l.take k++[v]++x.l.drop k from ⟨by simp;omega,by simp;omega,hn.out⟩)
   generalize x.l.take k=T1 at HS1 HT
   generalize x.l.drop k=T2 at HS2 HT
   refine ji [7,9] (by kernel_rfl) (by simp) (fun w10 F10 i hi o ho=>?_)
   have G:=(Fr.refl [] wr).drew.trans F10
   clear F10
   simp only [List.mem_cons,List.not_mem_nil,or_false] at hi
   rcases hi with rfl | rfl
   focus
    obtain rfl:=qi ho
    go_wp2_with (at_builtin;refine qp yc rfl _ _ 25 rfl Tryz.underlying25 q4t rfl (B:=wr.heap.size) (.slice none 0 0) [] rfl ⟨rfl,.inl ⟨rfl,rfl⟩⟩ _ T1 rfl (HS1.out.up G) (by have:=HT.out;simp;omega) (by decide) G.size ?_;intro a21 c21 w21 r21 f21)
    rw [List.nil_append] at r21
    replace G:=G.trans f21
    clear f21
    refine ql ⟨G,?_⟩
    refine loq 9 (fun w11 F11=>?_)
    have r11:=qm r21 F11
    replace G:=G.trans F11
    clear r21 F11
    go_wp2_with fail
    have F12:=(Fr.refl [] w11).alloc (.cells #[.int .i64 v] 3)
    have B12:=Go.heap_alloc_new w11 (.cells #[.int .i64 v] 3)
    have r12:=qm r11 F12
    replace G:=G.trans F12
    clear r11 F12 ho
    refine ql ⟨G,?_⟩
    refine loq 10 (fun w13 F13=>?_)
    have r22:=qm r12 F13
    have B22:=F13.heap B12 (by simp)
    replace G:=G.trans F13
    clear r12 B12 F13
   rotate_left
   focus
    obtain rfl:=qi ho
    go_wp2_with fail
    have F12:=(Fr.refl [] w10).alloc (.cells #[.int .i64 v] 3)
    have B12:=Go.heap_alloc_new w10 (.cells #[.int .i64 v] 3)
    replace G:=G.trans F12
    clear F12 ho
    refine ql ⟨G,?_⟩
    refine loq 7 (fun w11 F11=>?_)
    have B13:=F11.heap B12 (by simp)
    replace G:=G.trans F11
    clear B12 F11
    go_wp2_with (at_builtin;refine qp yc rfl _ _ 25 rfl Tryz.underlying25 q4t rfl (B:=wr.heap.size) (.slice none 0 0) [] rfl ⟨rfl,.inl ⟨rfl,rfl⟩⟩ _ T1 rfl (HS1.out.up G) (by have:=HT.out;simp;omega) (by decide) G.size ?_;intro a21 c21 w21 r21 f21)
    rw [List.nil_append] at r21
    have B21:=Fr.heap f21 B13 (by simp [Value.ownBlock])
    replace G:=G.trans f21
    clear f21 B13
    refine ql ⟨G,?_⟩
    refine loq 10 (fun w13 F13=>?_)
    have r22:=qm r21 F13
    have B22:=F13.heap B21 (by simp)
    replace G:=G.trans F13
    clear r21 B21 F13
   rotate_left
   all_goals
    go_wp2_with (at_builtin;refine qp yc rfl _ _ 25 rfl Tryz.underlying25 q4t rfl (B:=wr.heap.size) _ T1 rfl r22 _ [v] rfl (Sq.block B22 rfl rfl (Nat.le_refl _) (by simp [maxLen])) (by have:=HT.out;simp;omega) (by decide) G.size ?_;intro a23 c23 w23 r23 f23;generalize hT3:T1++[v]=T3 at r23 ⊢)
    replace G:=G.own f23 (z8 r22)
    clear f23 r22 B22
    refine ql ⟨G,?_⟩
    refine loq 17 (fun w14 F14=>?_)
    have r24:=qm r23 F14
    replace G:=G.trans F14
    clear r23 F14
    go_wp2_with (at_builtin;refine qp yc rfl _ _ 25 rfl Tryz.underlying25 q4t rfl (B:=wr.heap.size) _ T3 rfl r24 _ T2 rfl (HS2.out.up G) (by have:=HT.out;rw [<- hT3];simp;omega) (by decide) G.size ?_;intro a25 c25 w25 r25 f25;generalize hT4:T3++T2=T4 at r25 ⊢)
    replace G:=G.own f25 (z8 r24)
    clear f25 r24
    refine ql ⟨G,?_⟩
    refine qx (k:=18) rfl (by kernel_rfl) (fun w15 F15=>?_)
    have r26:=qm r25 F15
    replace G:=G.trans F15
    clear r25 F15
    have h26:=h.up G
    have z26:=h26.frozen
    obtain ⟨-,-,-,-,-,-,-,-,c8⟩:=Y5 h26
    go_wp2_with fail
    go_end0
    have hlt26:b<wr.heap.size:=h.lt
    have e26:ins x.l v=T4:=by rw [HT.out.2.2,hT3,hT4]
    rw [<- e26] at r26 ⊢
    refine ⟨rfl,⟨_,Ob.set h26 (i:=8) _,(Sq.own r26).kept (Fr.setCell (S:=[b]) _ (by simp)) (fun g hg hi=>?_),.inr (z8 r26)⟩,(G.mono).trans (Fr.setCell _ (by simp))⟩
    have:=z8 r26 g hg
    simp at hi
    omega
  ·obtain rfl:k=x.l.length:=by omega
   have hn:=q9 (q6q (Nat.le_refl _) h1 (fun z hz=>by simp at hz))
   have b0:(((x.l.length:Nat):Int) == ((x.l.length:Nat):Int))=true:=by simp
   go_wp2_with fail
   have HS:=q9 hs
   clear c8 hs
   refine qo (by kernel_rfl) ?_
   refine z6 [] wr #[true,true,true,true,true,true,true,true,true,true,true,true,true,true,true,true,true,true,false,false,false] 18 3 rfl ?_
   refine lpq [true,true,true,true,true,true,true,false,true,false,false,true,true,true,true,true,true,false,false,false,false] 4 ((Fr.refl _ wr).drew) ?_
   apply qg
   refine ⟨fun wf Ff=>?_,?_⟩
   ·obtain ⟨-,-,-,-,-,-,-,-,c8⟩:=Y5 (h.up Ff)
    have k8:=qb c8
    clear c8
    simp only [sel]
    repeat (go_big_quiet_step (fail))
    exact wpQuiet_nil rfl
   have HS1:=HS
   rw [List.take_length,List.drop_length] at hn
   have HT:=q9 (show x.l.length<=1000/\([]:List Int).length<=1000/\ins x.l v=x.l++[v]++[] from ⟨hl,by simp,hn.out⟩)
   have hcm:cap - x.l.length<=maxLen:=by omega
   generalize (if cap=x.l.length then a else Option.map (fun y=>y.add x.l.length) a)=a2
   generalize cap - x.l.length=c2 at hcm ⊢
   have HS2:=q9 (Sq.empty (f:=fI) wr a2 hcm)
   refine ji [7,9] (by kernel_rfl) (by simp) (fun w10 F10 i hi o ho=>?_)
   have G:=(Fr.refl [] wr).drew.trans F10
   clear F10
   simp only [List.mem_cons,List.not_mem_nil,or_false] at hi
   rcases hi with rfl | rfl
   focus
    obtain rfl:=qi ho
    go_wp2_with (at_builtin;refine qp yc rfl _ _ 25 rfl Tryz.underlying25 q4t rfl (B:=wr.heap.size) (.slice none 0 0) [] rfl ⟨rfl,.inl ⟨rfl,rfl⟩⟩ _ x.l rfl (HS1.out.up G) (by have:=HT.out;simp;omega) (by decide) G.size ?_;intro a21 c21 w21 r21 f21)
    rw [List.nil_append] at r21
    replace G:=G.trans f21
    clear f21
    refine ql ⟨G,?_⟩
    refine loq 9 (fun w11 F11=>?_)
    have r11:=qm r21 F11
    replace G:=G.trans F11
    clear r21 F11
    go_wp2_with fail
    have F12:=(Fr.refl [] w11).alloc (.cells #[.int .i64 v] 3)
    have B12:=Go.heap_alloc_new w11 (.cells #[.int .i64 v] 3)
    have r12:=qm r11 F12
    replace G:=G.trans F12
    clear r11 F12 ho
    refine ql ⟨G,?_⟩
    refine loq 10 (fun w13 F13=>?_)
    have r22:=qm r12 F13
    have B22:=F13.heap B12 (by simp)
    replace G:=G.trans F13
    clear r12 B12 F13
   rotate_left
   focus
    obtain rfl:=qi ho
    go_wp2_with fail
    have F12:=(Fr.refl [] w10).alloc (.cells #[.int .i64 v] 3)
    have B12:=Go.heap_alloc_new w10 (.cells #[.int .i64 v] 3)
    replace G:=G.trans F12
    clear F12 ho
    refine ql ⟨G,?_⟩
    refine loq 7 (fun w11 F11=>?_)
    have B13:=F11.heap B12 (by simp)
    replace G:=G.trans F11
    clear B12 F11
    go_wp2_with (at_builtin;refine qp yc rfl _ _ 25 rfl Tryz.underlying25 q4t rfl (B:=wr.heap.size) (.slice none 0 0) [] rfl ⟨rfl,.inl ⟨rfl,rfl⟩⟩ _ x.l rfl (HS1.out.up G) (by have:=HT.out;simp;omega) (by decide) G.size ?_;intro a21 c21 w21 r21 f21)
    rw [List.nil_append] at r21
    have B21:=Fr.heap f21 B13 (by simp [Value.ownBlock])
    replace G:=G.trans f21
    clear f21 B13
    refine ql ⟨G,?_⟩
    refine loq 10 (fun w13 F13=>?_)
    have r22:=qm r21 F13
    have B22:=F13.heap B21 (by simp)
    replace G:=G.trans F13
    clear r21 B21 F13
   rotate_left
   all_goals
    go_wp2_with (at_builtin;refine qp yc rfl _ _ 25 rfl Tryz.underlying25 q4t rfl (B:=wr.heap.size) _ x.l rfl r22 _ [v] rfl (Sq.block B22 rfl rfl (Nat.le_refl _) (by simp [maxLen])) (by have:=HT.out;simp;omega) (by decide) G.size ?_;intro a23 c23 w23 r23 f23;generalize hT3:x.l++[v]=T3 at r23 ⊢)
    replace G:=G.own f23 (z8 r22)
    clear f23 r22 B22
    refine ql ⟨G,?_⟩
    refine loq 17 (fun w14 F14=>?_)
    have r24:=qm r23 F14
    replace G:=G.trans F14
    clear r23 F14
    go_wp2_with (at_builtin;refine qp yc rfl _ _ 25 rfl Tryz.underlying25 q4t rfl (B:=wr.heap.size) _ T3 rfl r24 _ [] rfl (HS2.out.up G) (by have:=HT.out;rw [<- hT3];simp;omega) (by decide) G.size ?_;intro a25 c25 w25 r25 f25;generalize hT4:T3++([]:List Int)=T4 at r25 ⊢)
    replace G:=G.own f25 (z8 r24)
    clear f25 r24
    refine ql ⟨G,?_⟩
    refine qx (k:=18) rfl (by kernel_rfl) (fun w15 F15=>?_)
    have r26:=qm r25 F15
    replace G:=G.trans F15
    clear r25 F15
    have h26:=h.up G
    have z26:=h26.frozen
    obtain ⟨-,-,-,-,-,-,-,-,c8⟩:=Y5 h26
    go_wp2_with fail
    go_end0
    have hlt26:b<wr.heap.size:=h.lt
    have e26:ins x.l v=T4:=by rw [HT.out.2.2,hT3,hT4]
    rw [<- e26] at r26 ⊢
    refine ⟨rfl,⟨_,Ob.set h26 (i:=8) _,(Sq.own r26).kept (Fr.setCell (S:=[b]) _ (by simp)) (fun g hg hi=>?_),.inr (z8 r26)⟩,(G.mono).trans (Fr.setCell _ (by simp))⟩
    have:=z8 r26 g hg
    simp at hi
    omega
structure Nd where
 c:Cf
 t:Int
 line:Int
 e:Int
 v:Int
 lv:Value
 l:List Int
def Nd.cells (x:Nd):Array Value:=#[.int .i64 x.c.t,.int .i64 x.c.c,.int .i64 x.c.wd,.int .i64 x.c.v,.int .i64 x.t,.int .i64 x.line,.int .i64 x.e,.int .i64 x.v,x.lv]
def V4 (w:World) (b:Nat) (x:Nd):Prop:=Ob w b 277 x.cells
theorem xj {w:World} {b:Nat} {x:Nd} (h:V4 w b x):w.cell? ⟨b,0,none⟩=some (.int .i64 x.c.t)/\w.cell? ⟨b,1,none⟩=some (.int .i64 x.c.c)/\w.cell? ⟨b,2,none⟩=some (.int .i64 x.c.wd)/\w.cell? ⟨b,3,none⟩=some (.int .i64 x.c.v)/\w.cell? ⟨b,4,none⟩=some (.int .i64 x.t)/\w.cell? ⟨b,5,none⟩=some (.int .i64 x.line)/\w.cell? ⟨b,6,none⟩=some (.int .i64 x.e)/\w.cell? ⟨b,7,none⟩=some (.int .i64 x.v)/\w.cell? ⟨b,8,none⟩=some (x.lv) :=
 ⟨h.cell rfl,h.cell rfl,h.cell rfl,h.cell rfl,h.cell rfl,h.cell rfl,h.cell rfl,h.cell rfl,h.cell rfl⟩
def Nd.pa (x:Nd):Int:=q9x x.t
def Nd.base (x:Nd):NdB:=⟨x.c,x.t,x.line,x.e,x.v,x.l⟩
def Nd.on (x:Nd):Nd:=if x.c.t<=x.t+1 then { x with t:=x.t+1,line:=0 } else { x with t:=x.t+1,line:=1 }
def Nd.met (x:Nd) (v:Int):Nd:={ x with l:=ins x.l v }
def Nd.live (x:Nd):Bool:=decide (1<=x.line) && decide (x.line<=4)
def Nd.act (x:Nd) (s:St):St :=
 if x.line=1 then s.load x.pa else if x.line=2 then s.add 1 1 else if x.line=3 then s.swap x.pa x.e (Q8 (q4n x.e) (wrap64 (x.v+2))) else s.load x.pa
def Nd.told (x:Nd) (s:St):Int:=if x.line=2 then qq s.l 1 else qq s.l x.pa
def Nd.next (x:Nd) (v:Int):Nd :=
 if x.line=1 then (if ju v=1 then { x with e:=v,line:=2 } else if 1<ju v then Nd.on (Nd.met { x with e:=v,line:=2 } (ju v - 2)) else Nd.on { x with e:=v,line:=2 })
 else if x.line=2 then { x with v:=v,line:=3 } else if x.line=3 then { x with line:=4 }
 else (if q4n v=q4n x.e/\1<ju v then Nd.on (Nd.met x (ju v - 2)) else Nd.on x)
def Nd.step (x:Nd) (s:St):Nd×St:=if x.live=true then (x.next (x.told s),x.act s) else (x,s)
theorem U2 (x:Nd) (hc:x.c.Ok) (ht:0<=x.t/\x.t<=8) (b:Nat) (w:World) (h:V4 w b x):Calls Tryz.prog 226 #[.pointer (some ⟨b,0,none⟩)] w fun e w'=>e = .returned (.tuple #[])/\V4 w' b x.on/\Fr [b] w w':=by
 generalize hy:x.on=y
 have HY:=q9 hy
 clear hy
 obtain ⟨c0,c1,c2,c3,c4,c5,c6,c7,c8⟩:=xj h
 have z:=h.frozen
 go_enter Tryz.func226,Tryz.ntmps226
 go_wp2_with fail
 have h1:V4 _ b { x with t:=x.t+1,line:=1 }:=Ob.set (Ob.set h (i:=4) (.int .i64 (x.t+1))) (i:=5) (.int .i64 1)
 have D1:Fr [b] w ((w.setCell ⟨b,4,none⟩ (.int .i64 (x.t+1))).setCell ⟨b,5,none⟩ (.int .i64 1)):=(Fr.setCell _ (by simp)).setCell' _ (by simp)
 clear c0 c1 c2 c3 c4 c5 c6 c7 c8 z
 generalize ((w.setCell ⟨b,4,none⟩ (.int .i64 (x.t+1))).setCell ⟨b,5,none⟩ (.int .i64 1))=w1 at *
 obtain ⟨c0,-,-,-,c4,-,-,-,-⟩:=xj h1
 have k0:=qb c0
 have k4:=qb c4
 clear c0 c4
 refine wiq ?_
 repeat (go_big_quiet_step (fail))
 refine wpQuiet_nil ?_
 intro w2 F2
 have h2:=Ob.up h1 F2
 have D2:=D1.then F2
 clear h1 D1 F2 k0 k4
 obtain ⟨c0,c1,c2,c3,c4,c5,c6,c7,c8⟩:=xj h2
 have z:=h2.frozen
 by_cases hv:x.c.t<=x.t+1
 ·have hn:y = { x with t:=x.t+1,line:=0 }:=by rw [<- HY.out];unfold Nd.on;simp [hv]
  subst hn
  have g:decide (x.t+1≥x.c.t)=true:=by simpa using hv
  go_wp2_with fail
  go_end0
  exact ⟨rfl,Ob.set h2 _,D2.trans (Fr.setCell _ (by simp))⟩
 ·have hn:y = { x with t:=x.t+1,line:=1 }:=by rw [<- HY.out];unfold Nd.on;simp [hv]
  subst hn
  have g:decide (x.t+1≥x.c.t)=false:=by simpa using hv
  go_wp2_with fail
  go_end0
  exact ⟨rfl,h2,D2⟩
theorem q0g (c:Cf) (w:World):Calls Tryz.prog 210 #[c.val] w fun e w'=>∃ b,e = .returned (.pointer (some ⟨b,0,none⟩))/\w.heap.size<=b/\V4 w' b ⟨c,0,1,0,0,.slice none 0 0,[]⟩/\Fr [] w w':=by
 unfold Cf.val
 have F0:=(Fr.refl [] w).alloc (.cells #[.int .i64 c.t,.int .i64 c.c,.int .i64 c.wd,.int .i64 c.v] 23)
 obtain ⟨c0,c1,c2,c3⟩:=Pl.yf (Go.heap_alloc_new w (.cells #[.int .i64 c.t,.int .i64 c.c,.int .i64 c.wd,.int .i64 c.v] 23))
 go_enter Tryz.func210,Tryz.ntmps210
 go_wp2
 go_ret
 exact ⟨_,rfl,by omega,Ob.newAt (Vg _ _) _ _,F0.alloc _⟩
theorem qd9 (l:List Int) (v:Int):ins l v≠[]:=by
 cases l with
 | nil=>simp [ins]
 | cons x r=>unfold ins;split <;> (try split) <;> simp
theorem Wi (x:Nd) (v:Int) (b:Nat) (w:World) (hl:x.l.length<=1000) (h:V4 w b x) (hs:Sq fI w x.lv x.l) (hb:b∉x.lv.ownBlock.toList) :
  Calls Tryz.prog 225 #[.pointer (some ⟨b,0,none⟩),.int .i64 v] w fun e w'=>e = .returned (.tuple #[])/\(∃ lv',V4 w' b { x.met v with lv:=lv' } /\ Sq fI w' lv' (x.met v).l/\(lv'=x.lv\/((x.met v).l≠[]/\∀ g,g∈lv'.ownBlock.toList->w.heap.size<=g)))/\Fr [b] w w' :=
 (q7b x.base v b x.lv w hl h hs hb).mono fun e w' ⟨h1,⟨lv',h2,h3,h4⟩,h5⟩=>⟨h1,⟨lv',h2,h3,h4.imp id (fun a=>⟨qd9 _ _,a⟩)⟩,h5⟩
theorem q4j (x:Nd) (hl:x.line=2) (hc:x.c.Ok) (ht:0<=x.t/\x.t<=8) (b p q:Nat) (s:St) (w:World) (h:V4 w b x) (hA:Rar w p q s) (hp:b≠p) (hq:b≠q) :
  Calls Tryz.prog 211 #[.pointer (some ⟨b,0,none⟩),.pointer (some ⟨p,0,none⟩)] w fun e w'=>e = .returned (.bool (decide ((x.next (qq s.l 1)).line=0)))/\V4 w' b (x.next (qq s.l 1))/\Rar w' p q (s.add 1 1)/\Fr [b,p,q] w w':=by
 generalize hy:x.next (qq s.l 1)=y
 have HY:=q9 hy
 clear hy
 obtain ⟨c0,c1,c2,c3,c4,c5,c6,c7,c8⟩:=xj h
 have z:=h.frozen
 go_enter Tryz.func211,Tryz.ntmps211
 go_wp2_with fail
 have h0:=h
 have A0:=hA
 have D0:=Fr.refl [b,p,q] w
 clear h hA
 have hw0:=q9 (Eq.refl w)
 refine (Ref.jw x.t ht.1 ht.2 _).mono ?_;rintro e _ ⟨rfl,rfl⟩
 rw [show (3:Int)+x.t=x.pa from rfl]
 go_wp2_with fail
 have A1:=A0
 have h1:=h0
 have D1:=D0
 clear c0 c1 c2 c3 c4 c5 c6 c7 c8 z
 refine (Ref.Un _ p q s 1 1 A1).mono ?_;rintro e w5 ⟨rfl,A5,F5⟩
 have h5:=Ob.kept h1 F5 (by simp;exact ⟨hp,hq⟩)
 have D5:=zm D1 F5 (by simp)
 clear A1 h1 D1 F5 A0 h0 D0
 obtain ⟨c0,c1,c2,c3,c4,c5,c6,c7,c8⟩:=xj h5
 have z:=h5.frozen
 have hn:y = { x with v:=qq s.l 1,line:=3 }:=by rw [<- HY.out];unfold Nd.next;simp [hl]
 subst hn
 go_wp2_with fail
 go_ret
 exact ⟨rfl,(Ob.set (Ob.set h5 _) (i:=5) (.int .i64 3)),(Rar.set (Rar.set A5 hp hq _) hp hq (i:=5) (.int .i64 3)),(Fr.setCell' (Fr.setCell' D5 _ (by simp)) (b:=b) (i:=5) (.int .i64 3) (by simp))⟩
theorem q3x (x:Nd) (hl:x.line=3) (hc:x.c.Ok) (ht:0<=x.t/\x.t<=8) (b p q:Nat) (s:St) (w:World) (h:V4 w b x) (hA:Rar w p q s) (hp:b≠p) (hq:b≠q) :
  Calls Tryz.prog 211 #[.pointer (some ⟨b,0,none⟩),.pointer (some ⟨p,0,none⟩)] w fun e w'=>e = .returned (.bool (decide ((x.next (x.told s)).line=0)))/\V4 w' b (x.next (x.told s))/\Rar w' p q (s.swap x.pa x.e (Q8 (q4n x.e) (wrap64 (x.v+2))))/\Fr [b,p,q] w w':=by
 generalize hy:x.next (x.told s)=y
 have HY:=q9 hy
 clear hy
 obtain ⟨c0,c1,c2,c3,c4,c5,c6,c7,c8⟩:=xj h
 have z:=h.frozen
 go_enter Tryz.func211,Tryz.ntmps211
 go_wp2_with fail
 have h0:=h
 have A0:=hA
 have D0:=Fr.refl [b,p,q] w
 clear h hA
 have hw0:=q9 (Eq.refl w)
 refine (Ref.jw x.t ht.1 ht.2 _).mono ?_;rintro e _ ⟨rfl,rfl⟩
 rw [show (3:Int)+x.t=x.pa from rfl]
 go_wp2_with fail
 have A1:=A0
 have h1:=h0
 have D1:=D0
 clear c0 c1 c2 c3 c4 c5 c6 c7 c8 z
 refine qy (by kernel_rfl) [p,q] (fun w2 F2=>?_)
 refine epq [true,true,true,true,true,true,true,true,true,true,true,true,true,true,true,true,true,false] 1 (F2.mono) ?_
 apply qg
 refine ⟨fun wf Ff=>?_,?_⟩
 ·have hf:V4 wf b x:=Ob.kept h1 Ff (by simp;exact ⟨hp,hq⟩)
  obtain ⟨-,-,-,-,-,-,c6,c7,-⟩:=xj hf
  have k6:=qb c6
  have k7:=qb c7
  clear hf c6 c7
  simp only [sel]
  repeat (go_big_quiet_step ((first | (go_at_call 173;exact Calls.in_same (Vm _ _ _)) | (go_at_call 227;exact Calls.in_same (q0h _ _)))))
  exact wpQuiet_nil rfl
 refine eoq 17 (fun w3 F3=>?_)
 have E3:=F2.trans F3
 have A3:=A1.kept E3
 have h3:=Ob.up h1 E3
 have G3:=zm D1 E3 (by simp)
 clear F2 F3 A1 h1 D1 A0 h0 D0
 go_wp2_with fail
 refine (Ref.yt _ p q s _ _ _ A3).mono ?_;rintro e w4 ⟨rfl,A4,F4⟩
 have E4:=(E3.mono (T:=[p,q]) (by simp)).trans F4
 have h4:=h3.kept F4 (by simp;exact ⟨hp,hq⟩)
 have G4:=zm G3 F4 (by simp)
 clear A3 h3 F4 G3 E3
 go_wp2_with fail
 refine ql ⟨E4,?_⟩
 refine zr (by kernel_rfl) (fun w5 F5=>?_)
 have D5:=G4.then F5
 have h5:V4 w5 b x:=h4.up F5
 have A5:=A4.kept F5
 clear A4 h4 F5 G4 E4
 obtain ⟨c0,c1,c2,c3,c4,c5,c6,c7,c8⟩:=xj h5
 have z:=h5.frozen
 have hn:y = { x with line:=4 }:=by rw [<- HY.out];unfold Nd.next;simp [hl]
 subst hn
 go_wp2_with fail
 go_ret
 exact ⟨rfl,(Ob.set h5 _),(Rar.set A5 hp hq _),(Fr.setCell' D5 _ (by simp))⟩
theorem q8u (x:Nd) (lv:Value):({ x with lv:=lv }:Nd).on = { x.on with lv:=lv }:=by unfold Nd.on;simp only;split <;> rfl
theorem qbu (x:Nd):x.on.l=x.l:=by unfold Nd.on;split <;> rfl
theorem sqK {b p q:Nat} {w w':World} {v:Value} {l:List Int} (h:Sq fI w v l) (D:Fr [b,p,q] w w') (hb:b∉v.ownBlock.toList) (hp:p∉v.ownBlock.toList) (hq:q∉v.ownBlock.toList):Sq fI w' v l :=
 h.kept D (fun g hg hi=>by simp at hi;rcases hi with rfl | rfl | rfl <;> contradiction)
theorem q3p (x:Nd) (hl:x.line=1) (hc:x.c.Ok) (ht:0<=x.t/\x.t<=8) (b p q:Nat) (s:St) (w:World) (h:V4 w b x) (hA:Rar w p q s) (hp:b≠p) (hq:b≠q) (hs:Sq fI w x.lv x.l) (hb:b∉x.lv.ownBlock.toList) (hp2:p∉x.lv.ownBlock.toList) (hq2:q∉x.lv.ownBlock.toList) (hlen:x.l.length<=1000) :
  Calls Tryz.prog 211 #[.pointer (some ⟨b,0,none⟩),.pointer (some ⟨p,0,none⟩)] w fun e w'=>e = .returned (.bool (decide ((x.next (qq s.l x.pa)).line=0)))/\(∃ lv',V4 w' b { x.next (qq s.l x.pa) with lv:=lv' } /\ Sq fI w' lv' (x.next (qq s.l x.pa)).l/\(lv'=x.lv\/((x.next (qq s.l x.pa)).l≠[]/\∀ g,g∈lv'.ownBlock.toList->w.heap.size<=g)))/\Rar w' p q (s.load x.pa)/\Fr [b,p,q] w w':=by
 generalize hy:x.next (qq s.l x.pa)=y
 have HY:=q9 hy
 clear hy
 obtain ⟨c0,c1,c2,c3,c4,c5,c6,c7,c8⟩:=xj h
 have z:=h.frozen
 go_enter Tryz.func211,Tryz.ntmps211
 go_wp2_with fail
 have h0:=h
 have A0:=hA
 have D0:=Fr.refl [b,p,q] w
 clear h hA
 have hbw:=h0.lt
 refine (Ref.jw x.t ht.1 ht.2 _).mono ?_;rintro e _ ⟨rfl,rfl⟩
 rw [show (3:Int)+x.t=x.pa from rfl]
 go_wp2_with fail
 have A1:=A0
 have h1:=h0
 have D1:=D0
 clear c0 c1 c2 c3 c4 c5 c6 c7 c8 z
 refine (Ref.zi _ p q s _ A1).mono ?_;rintro e w5 ⟨rfl,A5,F5⟩
 have h5:=Ob.kept h1 F5 (by simp;exact ⟨hp,hq⟩)
 have D5:=zm D1 F5 (by simp)
 clear A1 h1 D1 F5 A0 h0 D0
 obtain ⟨c0,c1,c2,c3,c4,c5,c6,c7,c8⟩:=xj h5
 have z:=h5.frozen
 generalize hv:qq s.l x.pa=v at *
 go_wp2_with fail
 have h6:V4 _ b { x with e:=v,line:=2 }:=(Ob.set (Ob.set h5 (i:=6) (.int .i64 v)) (i:=5) (.int .i64 2))
 have A6:=(Rar.set (Rar.set A5 hp hq (i:=6) (.int .i64 v)) hp hq (i:=5) (.int .i64 2))
 have D6:=(Fr.setCell' (Fr.setCell' D5 (b:=b) (i:=6) (.int .i64 v) (by simp)) (b:=b) (i:=5) (.int .i64 2) (by simp))
 generalize ((w5.setCell ⟨b,6,none⟩ (.int .i64 v)).setCell ⟨b,5,none⟩ (.int .i64 2))=w6 at *
 clear c0 c1 c2 c3 c4 c5 c6 c7 c8 z
 clear h5 A5 D5
 refine (Y2 _ _).mono ?_;rintro e _ ⟨rfl,rfl⟩
 have hpb:=Int.emod_nonneg v (show (16777216:Int)≠0 by decide)
 have hpw:wrap64 (ju v - 2)=ju v - 2:=by unfold ju;exact w64 (by omega) (by omega)
 generalize hpv:ju v=pv at *
 by_cases e1:pv=1
 ·have hn:y = { x with e:=v,line:=2 }:=by rw [<- HY.out];unfold Nd.next;simp [hl,hpv,e1]
  subst hn
  obtain ⟨c0,c1,c2,c3,c4,c5,c6,c7,c8⟩:=xj h6
  go_wp2_with fail
  go_ret
  exact ⟨rfl,⟨x.lv,h6,sqK hs D6 hb hp2 hq2,.inl rfl⟩,A6,D6⟩
 ·have b1:(pv != 1)=true:=by simpa using e1
  by_cases e2:1<pv
  ·have hn:y=Nd.on (Nd.met { x with e:=v,line:=2 } (pv - 2)):=by rw [<- HY.out];unfold Nd.next;simp [hl,hpv,e1,e2]
   subst hn
   have b2:decide (pv>1)=true:=by simpa using e2
   go_wp2_with fail
   have hlw:=D6.size
   refine (Wi ({ x with e:=v,line:=2 }:Nd) (pv - 2) b _ hlen h6 (sqK hs D6 hb hp2 hq2) hb).mono ?_;rintro e w7 ⟨rfl,⟨lv',h7,hs7,hg7⟩,F7⟩
   have A7:=A6.kept F7 (by simp;exact hp.symm) (by simp;exact hq.symm)
   have D7:=zm D6 F7 (by simp)
   clear h6 A6 F7 D6
   go_wp2_with fail
   refine (U2 ({ Nd.met ({ x with e:=v,line:=2 }:Nd) (pv - 2) with lv:=lv' }) hc ht b _ h7).mono ?_;rintro e w8 ⟨rfl,h8,F8⟩
   rw [q8u] at h8
   have hb8:∀ g,g∈lv'.ownBlock.toList->g∉[b]:=fun g hg hi=>by
    rw [List.mem_singleton.1 hi] at hg
    rcases hg7 with e7 | e7
    ·rw [e7] at hg;exact hb hg
    ·have:=e7.2 b hg;have:=hbw;omega
   have hs8:=hs7.kept F8 hb8
   have A8:=A7.kept F8 (by simp;exact hp.symm) (by simp;exact hq.symm)
   have D8:=zm D7 F8 (by simp)
   clear h7 A7 F8 D7 hs7
   obtain ⟨-,-,-,-,-,c5,-,-,-⟩:=xj h8
   go_wp2_with fail
   go_ret
   exact ⟨rfl,⟨lv',h8,by rw [qbu];exact hs8,hg7.imp id fun hh=>⟨by rw [qbu];exact hh.1,fun g hg=>by have:=hh.2 g hg;omega⟩⟩,A8,D8⟩
  have hn:y=Nd.on { x with e:=v,line:=2 }:=by rw [<- HY.out];unfold Nd.next;simp [hl,hpv,e1,e2]
  subst hn
  have b2:decide (pv>1)=false:=by simpa using e2
  go_wp2_with fail
  refine (U2 ({ x with e:=v,line:=2 }:Nd) hc ht b _ h6).mono ?_;rintro e w7 ⟨rfl,h7,F7⟩
  have A7:=A6.kept F7 (by simp;exact hp.symm) (by simp;exact hq.symm)
  have D7:=zm D6 F7 (by simp)
  clear h6 A6 F7 D6
  obtain ⟨-,-,-,-,-,c5,-,-,-⟩:=xj h7
  go_wp2_with fail
  go_ret
  exact ⟨rfl,⟨x.lv,by rw [show ({ Nd.on ({ x with e:=v,line:=2 }:Nd) with lv:=x.lv }:Nd)=Nd.on ({ x with e:=v,line:=2 }:Nd) from (q8u ({ x with e:=v,line:=2 }:Nd) x.lv).symm];exact h7,by rw [qbu];exact sqK hs D7 hb hp2 hq2,.inl rfl⟩,A7,D7⟩
theorem q2u (x:Nd) (hl:x.line=4) (hc:x.c.Ok) (ht:0<=x.t/\x.t<=8) (b p q:Nat) (s:St) (w:World) (h:V4 w b x) (hA:Rar w p q s) (hp:b≠p) (hq:b≠q) (hs:Sq fI w x.lv x.l) (hb:b∉x.lv.ownBlock.toList) (hp2:p∉x.lv.ownBlock.toList) (hq2:q∉x.lv.ownBlock.toList) (hlen:x.l.length<=1000) :
  Calls Tryz.prog 211 #[.pointer (some ⟨b,0,none⟩),.pointer (some ⟨p,0,none⟩)] w fun e w'=>e = .returned (.bool (decide ((x.next (qq s.l x.pa)).line=0)))/\(∃ lv',V4 w' b { x.next (qq s.l x.pa) with lv:=lv' } /\ Sq fI w' lv' (x.next (qq s.l x.pa)).l/\(lv'=x.lv\/((x.next (qq s.l x.pa)).l≠[]/\∀ g,g∈lv'.ownBlock.toList->w.heap.size<=g)))/\Rar w' p q (s.load x.pa)/\Fr [b,p,q] w w':=by
 generalize hy:x.next (qq s.l x.pa)=y
 have HY:=q9 hy
 clear hy
 obtain ⟨c0,c1,c2,c3,c4,c5,c6,c7,c8⟩:=xj h
 have z:=h.frozen
 go_enter Tryz.func211,Tryz.ntmps211
 go_wp2_with fail
 have h0:=h
 have A0:=hA
 have D0:=Fr.refl [b,p,q] w
 clear h hA
 have hbw:=h0.lt
 refine (Ref.jw x.t ht.1 ht.2 _).mono ?_;rintro e _ ⟨rfl,rfl⟩
 rw [show (3:Int)+x.t=x.pa from rfl]
 go_wp2_with fail
 have A1:=A0
 have h1:=h0
 have D1:=D0
 clear c0 c1 c2 c3 c4 c5 c6 c7 c8 z
 refine (Ref.zi _ p q s _ A1).mono ?_;rintro e w5 ⟨rfl,A5,F5⟩
 have h5:=Ob.kept h1 F5 (by simp;exact ⟨hp,hq⟩)
 have D5:=zm D1 F5 (by simp)
 clear A1 h1 D1 F5 A0 h0 D0
 obtain ⟨c0,c1,c2,c3,c4,c5,c6,c7,c8⟩:=xj h5
 have z:=h5.frozen
 generalize hv:qq s.l x.pa=v at *
 have hpb:=Int.emod_nonneg v (show (16777216:Int)≠0 by decide)
 have hpw:wrap64 (ju v - 2)=ju v - 2:=by unfold ju;exact w64 (by omega) (by omega)
 by_cases e1:q4n v=q4n x.e
 focus
  have b1:(q4n v == q4n x.e)=true:=by simpa using e1
  by_cases e2:1<ju v
  ·have HN:=q9 (show y=Nd.on (Nd.met x (ju v - 2)) by rw [<- HY.out];unfold Nd.next;simp [hl,e1,e2])
   have b2:decide (ju v>1)=true:=by simpa using e2
   clear e1
   go_wp2_with fail
   have k6:=qb c6
   clear c0 c1 c2 c3 c4 c5 c6 c7 c8 z
   refine wiq ?_
   repeat (go_big_quiet_step ((first | (go_at_call 227;exact Calls.in_same (q0h _ _)) | (go_at_call 193;exact Calls.in_same (Y2 _ _)))))
   refine wpQuiet_nil ?_
   intro w6 F6
   have h6:V4 w6 b x:=Ob.up h5 F6
   have A6:=A5.kept F6
   have D6:=D5.then F6
   clear h5 A5 D5 k6 F6
   go_wp2_with fail
   refine (Y2 _ _).mono ?_;rintro e _ ⟨rfl,rfl⟩
   go_wp2_with fail
   obtain rfl:=HN.out
   have hlw:=D6.size
   refine (Wi x (ju v - 2) b _ hlen h6 (sqK hs D6 hb hp2 hq2) hb).mono ?_;rintro e w7 ⟨rfl,⟨lv',h7,hs7,hg7⟩,F7⟩
   have A7:=A6.kept F7 (by simp;exact hp.symm) (by simp;exact hq.symm)
   have D7:=zm D6 F7 (by simp)
   clear h6 A6 F7 D6
   go_wp2_with fail
   refine (U2 ({ Nd.met x (ju v - 2) with lv:=lv' }) hc ht b _ h7).mono ?_;rintro e w8 ⟨rfl,h8,F8⟩
   rw [q8u] at h8
   have hb8:∀ g,g∈lv'.ownBlock.toList->g∉[b]:=fun g hg hi=>by
    rw [List.mem_singleton.1 hi] at hg
    rcases hg7 with e7 | e7
    ·rw [e7] at hg;exact hb hg
    ·have:=e7.2 b hg;have:=hbw;omega
   have hs8:=hs7.kept F8 hb8
   have A8:=A7.kept F8 (by simp;exact hp.symm) (by simp;exact hq.symm)
   have D8:=zm D7 F8 (by simp)
   clear h7 A7 F8 D7 hs7
   obtain ⟨-,-,-,-,-,c5,-,-,-⟩:=xj h8
   go_wp2_with fail
   go_ret
   exact ⟨rfl,⟨lv',h8,by rw [qbu];exact hs8,hg7.imp id fun hh=>⟨by rw [qbu];exact hh.1,fun g hg=>by have:=hh.2 g hg;omega⟩⟩,A8,D8⟩
  have HN:=q9 (show y=Nd.on x by rw [<- HY.out];unfold Nd.next;simp [hl,e2])
  have b2:decide (ju v>1)=false:=by simpa using e2
  clear e1
 rotate_left
 focus
  have HN:=q9 (show y=Nd.on x by rw [<- HY.out];unfold Nd.next;simp [hl,e1])
  have b1:(q4n v == q4n x.e)=false:=by simpa using e1
 rotate_left
 all_goals
  go_wp2_with fail
  have k6:=qb c6
  clear c0 c1 c2 c3 c4 c5 c6 c7 c8 z
  refine wiq ?_
  repeat (go_big_quiet_step ((first | (go_at_call 227;exact Calls.in_same (q0h _ _)) | (go_at_call 193;exact Calls.in_same (Y2 _ _)))))
  refine wpQuiet_nil ?_
  intro w6 F6
  have h6:V4 w6 b x:=Ob.up h5 F6
  have A6:=A5.kept F6
  have D6:=D5.then F6
  clear h5 A5 D5 k6 F6
  go_wp2_with fail
  obtain rfl:=HN.out
  refine (U2 x hc ht b _ h6).mono ?_;rintro e w7 ⟨rfl,h7,F7⟩
  have A7:=A6.kept F7 (by simp;exact hp.symm) (by simp;exact hq.symm)
  have D7:=zm D6 F7 (by simp)
  clear h6 A6 F7 D6
  obtain ⟨-,-,-,-,-,c5,-,-,-⟩:=xj h7
  go_wp2_with fail
  go_ret
  exact ⟨rfl,⟨x.lv,by rw [show ({ Nd.on x with lv:=x.lv }:Nd)=Nd.on x from (q8u x x.lv).symm];exact h7,by rw [qbu];exact sqK hs D7 hb hp2 hq2,.inl rfl⟩,A7,D7⟩
theorem q3e (x:Nd) (hl:x.live=false) (ht:0<=x.t/\x.t<=8) (b p q:Nat) (w:World) (h:V4 w b x) :
  Calls Tryz.prog 211 #[.pointer (some ⟨b,0,none⟩),.pointer (some ⟨p,0,none⟩)] w fun e w'=>e = .returned (.bool (decide (x.line=0)))/\Fr [] w w':=by
 obtain ⟨c0,c1,c2,c3,c4,c5,c6,c7,c8⟩:=xj h
 unfold Nd.live at hl
 have l1:x.line≠1:=by intro h;rw [h] at hl;simp at hl
 have l2:x.line≠2:=by intro h;rw [h] at hl;simp at hl
 have l3:x.line≠3:=by intro h;rw [h] at hl;simp at hl
 have l4:x.line≠4:=by intro h;rw [h] at hl;simp at hl
 clear hl
 go_enter Tryz.func211,Tryz.ntmps211
 go_wp2_with fail
 refine (Ref.jw x.t ht.1 ht.2 _).mono ?_;rintro e _ ⟨rfl,rfl⟩
 rw [show (3:Int)+x.t=x.pa from rfl]
 go_wp2_with fail
 go_ret
 exact ⟨rfl,Fr.refl _ _⟩
theorem q6z (x:Nd) (hc:x.c.Ok) (ht:0<=x.t/\x.t<=8) (b p q:Nat) (s:St) (w:World) (h:V4 w b x) (hA:Rar w p q s) (hp:b≠p) (hq:b≠q) (hs:Sq fI w x.lv x.l) (hb:b∉x.lv.ownBlock.toList) (hp2:p∉x.lv.ownBlock.toList) (hq2:q∉x.lv.ownBlock.toList) (hlen:x.l.length<=1000) :
  Calls Tryz.prog 211 #[.pointer (some ⟨b,0,none⟩),.pointer (some ⟨p,0,none⟩)] w fun e w'=>e = .returned (.bool (decide ((x.step s).1.line=0)))/\(∃ lv',V4 w' b { (x.step s).1 with lv:=lv' } /\ Sq fI w' lv' (x.step s).1.l/\(lv'=x.lv\/((x.step s).1.l≠[]/\∀ g,g∈lv'.ownBlock.toList->w.heap.size<=g)))/\Rar w' p q (x.step s).2/\Fr [b,p,q] w w':=by
 unfold Nd.step
 cases hl:x.live with
 | false=>exact (q3e x hl ht b p q w h).mono (by rintro e w' ⟨rfl,F⟩;exact ⟨rfl,⟨x.lv,Ob.up h F,hs.up F,.inl rfl⟩,hA.kept F,F.mono⟩)
 | true =>
  unfold Nd.live at hl
  have hl':x.line=1\/x.line=2\/x.line=3\/x.line=4:=by simp only [Bool.and_eq_true,decide_eq_true_eq] at hl;omega
  rw [qf rfl]
  rcases hl' with l | l | l | l
  ·rw [show x.act s=s.load x.pa by unfold Nd.act;simp [l],show x.told s=qq s.l x.pa by unfold Nd.told;simp [l]];exact q3p x l hc ht b p q s w h hA hp hq hs hb hp2 hq2 hlen
  ·rw [show x.act s=s.add 1 1 by unfold Nd.act;simp [l],show x.told s=qq s.l 1 by unfold Nd.told;simp [l]]
   refine (q4j x l hc ht b p q s w h hA hp hq).mono ?_
   rintro e w' ⟨rfl,h1,A1,D1⟩
   have e1:x.next (qq s.l 1) = { x with v:=qq s.l 1,line:=3 }:=by unfold Nd.next;simp [l]
   rw [e1] at h1 ⊢
   exact ⟨rfl,⟨x.lv,h1,sqK hs D1 hb hp2 hq2,.inl rfl⟩,A1,D1⟩
  ·rw [show x.act s=s.swap x.pa x.e (Q8 (q4n x.e) (wrap64 (x.v+2))) by unfold Nd.act;simp [l]]
   refine (q3x x l hc ht b p q s w h hA hp hq).mono ?_
   rintro e w' ⟨rfl,h1,A1,D1⟩
   have e1:x.next (x.told s) = { x with line:=4 }:=by unfold Nd.next;simp [l]
   rw [e1] at h1 ⊢
   exact ⟨rfl,⟨x.lv,h1,sqK hs D1 hb hp2 hq2,.inl rfl⟩,A1,D1⟩
  ·rw [show x.act s=s.load x.pa by unfold Nd.act;simp [l],show x.told s=qq s.l x.pa by unfold Nd.told;simp [l]];exact q2u x l hc ht b p q s w h hA hp hq hs hb hp2 hq2 hlen
structure Sp where
 c:Cf
 chunk:Int
 mate:Int
 repl:Int
 line:Int
 m:Int
 cur:Int
 w:Int
 n:Int
 stuck:Int
def Sp.cells (x:Sp):Array Value:=#[.int .i64 x.c.t,.int .i64 x.c.c,.int .i64 x.c.wd,.int .i64 x.c.v,.int .i64 x.chunk,.int .i64 x.mate,.int .i64 x.repl,.int .i64 x.line,.int .i64 x.m,.int .i64 x.cur,.int .i64 x.w,.int .i64 x.n,.int .i64 x.stuck]
def Zk (w:World) (b:Nat) (x:Sp):Prop:=Ob w b 268 x.cells
theorem xe {w:World} {b:Nat} {x:Sp} (h:Zk w b x):w.cell? ⟨b,0,none⟩=some (.int .i64 x.c.t)/\w.cell? ⟨b,1,none⟩=some (.int .i64 x.c.c)/\w.cell? ⟨b,2,none⟩=some (.int .i64 x.c.wd)/\w.cell? ⟨b,3,none⟩=some (.int .i64 x.c.v)/\w.cell? ⟨b,4,none⟩=some (.int .i64 x.chunk)/\w.cell? ⟨b,5,none⟩=some (.int .i64 x.mate)/\w.cell? ⟨b,6,none⟩=some (.int .i64 x.repl)/\w.cell? ⟨b,7,none⟩=some (.int .i64 x.line)/\w.cell? ⟨b,8,none⟩=some (.int .i64 x.m)/\w.cell? ⟨b,9,none⟩=some (.int .i64 x.cur)/\w.cell? ⟨b,10,none⟩=some (.int .i64 x.w)/\w.cell? ⟨b,11,none⟩=some (.int .i64 x.n)/\w.cell? ⟨b,12,none⟩=some (.int .i64 x.stuck) :=
 ⟨h.cell rfl,h.cell rfl,h.cell rfl,h.cell rfl,h.cell rfl,h.cell rfl,h.cell rfl,h.cell rfl,h.cell rfl,h.cell rfl,h.cell rfl,h.cell rfl,h.cell rfl⟩
def Sp.new (c:Cf) (chunk mate repl:Int):Sp:=⟨c,chunk,mate,repl,1,0,0,0,0,0⟩
def Sp.head (x:Sp):Sp:={ x with cur:=xm x.c,line:=3 }
def Sp.live (x:Sp):Bool:=decide (x.line=1) || (decide (3<=x.line) && decide (x.line<=8))
def Sp.hint (x:Sp):Int:=Zw x.c (hd x.m 0 63)
def Sp.act (x:Sp) (s:St):St :=
 if x.line=1 then s.load (wrap64 x.chunk) else if x.line=3 then s.load (wrap64 (x.cur+2)) else if x.line=4 then s.swap (wrap64 (x.cur+2)) x.w (jv x.repl false) else if x.line=5 then s.load (wrap64 x.n)
 else if x.line=6 then s.store (wrap64 (x.chunk+6)) 2 else if x.line=7 then s.store (wrap64 (x.mate+6)) 2 else s.store x.hint x.repl
def Sp.told (x:Sp) (s:St):Int :=
 if x.line=1 then qq s.l (wrap64 x.chunk) else if x.line=3 then qq s.l (wrap64 (x.cur+2)) else if x.line=4 then (if s.can (wrap64 (x.cur+2)) x.w then 1 else 0) else qq s.l (wrap64 x.n)
def Sp.next (x:Sp) (v:Int):Sp :=
 if x.line=1 then Sp.head { x with m:=v }
 else if x.line=3 then (if Jy v=true then { x with w:=v,n:=atW v,stuck:=x.cur,line:=0 } else if atW v=0 then { x with w:=v,n:=0,line:=6 } else if atW v=x.chunk then { x with w:=v,n:=atW v,line:=4 } else { x with w:=v,n:=atW v,line:=5 })
 else if x.line=4 then (if v=1 then { x with line:=6 } else x.head)
 else if x.line=5 then (if x.m<=v then { x with line:=6 } else { x with cur:=x.n,line:=3 })
 else if x.line=6 then (if x.mate=0 then { x with line:=8 } else { x with line:=7 })
 else if x.line=7 then { x with line:=8 } else { x with line:=0 }
theorem qc8 (m:Int):(if (0:Int)<(if (63:Int)<m then 63 else m) then (if (63:Int)<m then 63 else m) else 0)=hd m 0 63:=by unfold hd;(repeat' split) <;> omega
def Sp.step (x:Sp) (s:St):Sp×St:=if x.live=true then (x.next (x.told s),x.act s) else (x,s)
theorem U5 (c:Cf) (chunk mate repl:Int) (w:World):Calls Tryz.prog 209 #[c.val,.int .i64 chunk,.int .i64 mate,.int .i64 repl] w fun e w'=>∃ b,e = .returned (.pointer (some ⟨b,0,none⟩))/\w.heap.size<=b/\Zk w' b (Sp.new c chunk mate repl)/\Fr [] w w':=by
 unfold Cf.val
 have F0:=(Fr.refl [] w).alloc (.cells #[.int .i64 c.t,.int .i64 c.c,.int .i64 c.wd,.int .i64 c.v] 23)
 obtain ⟨c0,c1,c2,c3⟩:=Pl.yf (Go.heap_alloc_new w (.cells #[.int .i64 c.t,.int .i64 c.c,.int .i64 c.wd,.int .i64 c.v] 23))
 go_enter Tryz.func209,Tryz.ntmps209
 go_wp2
 go_ret
 exact ⟨_,rfl,by omega,Ob.newAt (Vg _ _) _ _,F0.alloc _⟩
theorem Jl (x:Sp) (hc:x.c.Ok) (b:Nat) (w:World) (h:Zk w b x):Calls Tryz.prog 231 #[.pointer (some ⟨b,0,none⟩)] w fun e w'=>e = .returned (.tuple #[])/\Zk w' b x.head/\Fr [b] w w':=by
 obtain ⟨c0,c1,c2,c3,c4,c5,c6,c7,c8,c9,c10,c11,c12⟩:=xe h
 go_enter Tryz.func231,Tryz.ntmps231
 go_wp2_with fail
 refine (Ref.Q5 x.c.t x.c.c x.c.wd x.c.v hc.t1 hc.t8 _).mono ?_;rintro e w1 ⟨rfl,F1⟩
 have h1:Zk w1 b x:=Ob.up h F1
 have z1:=h1.frozen
 clear c0 c1 c2 c3 c4 c5 c6 c7 c8 c9 c10 c11 c12
 obtain ⟨-,-,-,-,-,-,-,c7,-,c9,-,-,-⟩:=xe h1
 go_wp2
 go_end0
 exact ⟨rfl,by
  have e:3+x.c.t+4=xm x.c:=by unfold xm;omega
  rw [e];exact (Ob.set h1 _).set _,(F1.mono).trans ((Fr.setCell _ (by simp)).setCell' _ (by simp))⟩
theorem Td (x:Sp) (hl:x.line=1) (hc:x.c.Ok) (b p q:Nat) (s:St) (w:World) (h:Zk w b x) (hA:Rar w p q s) (hp:b≠p) (hq:b≠q) :
  Calls Tryz.prog 217 #[.pointer (some ⟨b,0,none⟩),.pointer (some ⟨p,0,none⟩)] w fun e w'=>e = .returned (.bool (decide ((x.next (qq s.l (wrap64 x.chunk))).line=0)))/\Zk w' b (x.next (qq s.l (wrap64 x.chunk)))/\Rar w' p q (s.load (wrap64 x.chunk))/\Fr [b,p,q] w w':=by
 generalize hy:x.next (qq s.l (wrap64 x.chunk))=y
 have HY:=q9 hy
 clear hy
 obtain ⟨c0,c1,c2,c3,c4,c5,c6,c7,c8,c9,c10,c11,c12⟩:=xe h
 have z:=h.frozen
 go_enter Tryz.func217,Tryz.ntmps217
 go_wp2_with fail
 have h0:=h
 have A0:=hA
 have D0:=Fr.refl [b,p,q] w
 clear h hA
 have hw0:=q9 (Eq.refl w)
 have A1:=A0
 have h1:=h0
 have D1:=D0
 clear c0 c1 c2 c3 c4 c5 c6 c7 c8 c9 c10 c11 c12 z
 refine (Ref.zi _ p q s _ A1).mono ?_;rintro e w5 ⟨rfl,A5,F5⟩
 have h5:=Ob.kept h1 F5 (by simp;exact ⟨hp,hq⟩)
 have D5:=zm D1 F5 (by simp)
 clear A1 h1 D1 F5 A0 h0 D0
 obtain ⟨c0,c1,c2,c3,c4,c5,c6,c7,c8,c9,c10,c11,c12⟩:=xe h5
 have z:=h5.frozen
 generalize hv:qq s.l (wrap64 x.chunk)=v at *
 have hn:y=Sp.head { x with m:=v }:=by rw [<- HY.out];unfold Sp.next;simp [hl]
 subst hn
 go_wp2_with fail
 have h6:Zk _ b { x with m:=v }:=(Ob.set h5 (i:=8) (.int .i64 v))
 have A6:=(Rar.set A5 hp hq (i:=8) (.int .i64 v))
 have D6:=(Fr.setCell' D5 (b:=b) (i:=8) (.int .i64 v) (by simp))
 generalize (w5.setCell ⟨b,8,none⟩ (.int .i64 v))=w6 at *
 clear c0 c1 c2 c3 c4 c5 c6 c7 c8 c9 c10 c11 c12 z
 clear h5 A5 D5
 refine (Jl { x with m:=v } hc b _ h6).mono ?_;rintro e w7 ⟨rfl,h7,F7⟩
 have A7:=A6.kept F7 (by simp;exact hp.symm) (by simp;exact hq.symm)
 have D7:=zm D6 F7 (by simp)
 clear h6 A6 D6 F7
 obtain ⟨-,-,-,-,-,-,-,c7,-,-,-,-,-⟩:=xe h7
 go_wp2_with fail
 go_ret
 exact ⟨rfl,h7,A7,D7⟩
theorem Sd (x:Sp) (hl:x.line=3) (hc:x.c.Ok) (b p q:Nat) (s:St) (w:World) (h:Zk w b x) (hA:Rar w p q s) (hp:b≠p) (hq:b≠q) :
  Calls Tryz.prog 217 #[.pointer (some ⟨b,0,none⟩),.pointer (some ⟨p,0,none⟩)] w fun e w'=>e = .returned (.bool (decide ((x.next (qq s.l (wrap64 (x.cur+2)))).line=0)))/\Zk w' b (x.next (qq s.l (wrap64 (x.cur+2))))/\Rar w' p q (s.load (wrap64 (x.cur+2)))/\Fr [b,p,q] w w':=by
 generalize hy:x.next (qq s.l (wrap64 (x.cur+2)))=y
 have HY:=q9 hy
 clear hy
 obtain ⟨c0,c1,c2,c3,c4,c5,c6,c7,c8,c9,c10,c11,c12⟩:=xe h
 have z:=h.frozen
 go_enter Tryz.func217,Tryz.ntmps217
 go_wp2_with fail
 have h0:=h
 have A0:=hA
 have D0:=Fr.refl [b,p,q] w
 clear h hA
 have hw0:=q9 (Eq.refl w)
 have A1:=A0
 have h1:=h0
 have D1:=D0
 clear c0 c1 c2 c3 c4 c5 c6 c7 c8 c9 c10 c11 c12 z
 refine (Ref.zi _ p q s _ A1).mono ?_;rintro e w5 ⟨rfl,A5,F5⟩
 have h5:=Ob.kept h1 F5 (by simp;exact ⟨hp,hq⟩)
 have D5:=zm D1 F5 (by simp)
 clear A1 h1 D1 F5 A0 h0 D0
 obtain ⟨c0,c1,c2,c3,c4,c5,c6,c7,c8,c9,c10,c11,c12⟩:=xe h5
 have z:=h5.frozen
 generalize hv:qq s.l (wrap64 (x.cur+2))=v at *
 go_wp2_with fail
 refine (Vn _ _).mono ?_;rintro e _ ⟨rfl,rfl⟩
 go_wp2_with fail
 have h6:Zk _ b { x with w:=v,n:=atW v }:=(Ob.set (Ob.set h5 (i:=10) (.int .i64 v)) (i:=11) (.int .i64 (atW v)))
 have A6:=(Rar.set (Rar.set A5 hp hq (i:=10) (.int .i64 v)) hp hq (i:=11) (.int .i64 (atW v)))
 have D6:=(Fr.setCell' (Fr.setCell' D5 (b:=b) (i:=10) (.int .i64 v) (by simp)) (b:=b) (i:=11) (.int .i64 (atW v)) (by simp))
 generalize ((w5.setCell ⟨b,10,none⟩ (.int .i64 v)).setCell ⟨b,11,none⟩ (.int .i64 (atW v)))=w6 at *
 clear c0 c1 c2 c3 c4 c5 c6 c7 c8 c9 c10 c11 c12 z
 clear h5 A5 D5
 refine (Yi _ _).mono ?_;rintro e _ ⟨rfl,rfl⟩
 obtain ⟨c0,c1,c2,c3,c4,c5,c6,c7,c8,c9,c10,c11,c12⟩:=xe h6
 have z:=h6.frozen
 generalize ha:atW v=av at *
 cases hm:Jy v
 ·by_cases hz0:av=0
  ·have hn:y = { x with w:=v,n:=0,line:=6 }:=by rw [<- HY.out];unfold Sp.next;simp [hl,hm,ha,hz0]
   subst hn
   go_wp2_with fail
   go_ret
   rw [show ({ x with w:=v,n:=0,line:=6 }:Sp) = { x with w:=v,n:=av,line:=6 } by rw [<- hz0]]
   exact ⟨rfl,(Ob.set h6 _),(Rar.set A6 hp hq _),(Fr.setCell' D6 _ (by simp))⟩
  ·have b0:(av == 0)=false:=by simpa using hz0
   go_wp2_with fail
   have k4:=qb c4
   have k11:=qb c11
   clear c0 c1 c2 c3 c4 c5 c6 c7 c8 c9 c10 c11 c12 z
   refine wiq ?_
   repeat (go_big_quiet_step (fail))
   refine wpQuiet_nil ?_
   intro w7 F7
   have h7:=Ob.up h6 F7
   have A7:=A6.kept F7
   have D7:=D6.then F7
   clear h6 A6 D6 F7 k4 k11
   obtain ⟨c0,c1,c2,c3,c4,c5,c6,c7,c8,c9,c10,c11,c12⟩:=xe h7
   have z:=h7.frozen
   by_cases hc0:av=x.chunk
   ·have hn:y = { x with w:=v,n:=av,line:=4 }:=by rw [<- HY.out];unfold Sp.next;simp [hl,hm,ha,hz0,hc0];exact fun h=>hz0 (hc0.trans h)
    subst hn
    have b1:(av == x.chunk)=true:=by simpa using hc0
    clear hc0
    go_wp2_with fail
    go_ret
    exact ⟨rfl,(Ob.set h7 _),(Rar.set A7 hp hq _),(Fr.setCell' D7 _ (by simp))⟩
   ·have hn:y = { x with w:=v,n:=av,line:=5 }:=by rw [<- HY.out];unfold Sp.next;simp [hl,hm,ha,hz0,hc0]
    subst hn
    have b1:(av == x.chunk)=false:=by simpa using hc0
    go_wp2_with fail
    go_ret
    exact ⟨rfl,(Ob.set h7 _),(Rar.set A7 hp hq _),(Fr.setCell' D7 _ (by simp))⟩
 ·have hn:y = { x with w:=v,n:=av,stuck:=x.cur,line:=0 }:=by rw [<- HY.out];unfold Sp.next;simp [hl,hm,ha]
  subst hn
  go_wp2_with fail
  go_ret
  exact ⟨rfl,(Ob.set (Ob.set h6 _) (i:=7) (.int .i64 0)),(Rar.set (Rar.set A6 hp hq _) hp hq (i:=7) (.int .i64 0)),(Fr.setCell' (Fr.setCell' D6 _ (by simp)) (b:=b) (i:=7) (.int .i64 0) (by simp))⟩
theorem Tm (x:Sp) (hl:x.line=4) (hc:x.c.Ok) (b p q:Nat) (s:St) (w:World) (h:Zk w b x) (hA:Rar w p q s) (hp:b≠p) (hq:b≠q) :
  Calls Tryz.prog 217 #[.pointer (some ⟨b,0,none⟩),.pointer (some ⟨p,0,none⟩)] w fun e w'=>e = .returned (.bool (decide ((x.next ((if s.can (wrap64 (x.cur+2)) x.w then 1 else 0))).line=0)))/\Zk w' b (x.next ((if s.can (wrap64 (x.cur+2)) x.w then 1 else 0)))/\Rar w' p q (s.swap (wrap64 (x.cur+2)) x.w (jv x.repl false))/\Fr [b,p,q] w w':=by
 generalize hy:x.next ((if s.can (wrap64 (x.cur+2)) x.w then 1 else 0))=y
 have HY:=q9 hy
 clear hy
 obtain ⟨c0,c1,c2,c3,c4,c5,c6,c7,c8,c9,c10,c11,c12⟩:=xe h
 have z:=h.frozen
 go_enter Tryz.func217,Tryz.ntmps217
 go_wp2_with fail
 have h0:=h
 have A0:=hA
 have D0:=Fr.refl [b,p,q] w
 clear h hA
 have hw0:=q9 (Eq.refl w)
 have A1:=A0
 have h1:=h0
 have D1:=D0
 clear c0 c1 c2 c3 c4 c5 c6 c7 c8 c9 c10 c11 c12 z
 refine qy (by kernel_rfl) [p,q] (fun w2 F2=>?_)
 refine epq [true,true,true,true,true,true,true,true,true,true,true,true,true,true,true,false] 1 (F2.mono) ?_
 apply qg
 refine ⟨fun wf Ff=>?_,?_⟩
 ·have hf:Zk wf b x:=Ob.kept h1 Ff (by simp;exact ⟨hp,hq⟩)
  obtain ⟨-,-,-,-,-,-,c6,-,-,c9,c10,-,-⟩:=xe hf
  have k6:=qb c6
  have k9:=qb c9
  have k10:=qb c10
  clear hf c6 c9 c10
  simp only [sel]
  repeat (go_big_quiet_step ((first | (go_at_call 121;exact Calls.in_same (Vd _ _ _)))))
  exact wpQuiet_nil rfl
 refine eoq 15 (fun w3 F3=>?_)
 have E3:=F2.trans F3
 have A3:=A1.kept E3
 have h3:=Ob.up h1 E3
 have G3:=zm D1 E3 (by simp)
 clear F2 F3 A1 h1 D1 A0 h0 D0
 go_wp2_with fail
 refine (Ref.yt _ p q s _ _ _ A3).mono ?_;rintro e w4 ⟨rfl,A4,F4⟩
 have E4:=(E3.mono (T:=[p,q]) (by simp)).trans F4
 have h4:=h3.kept F4 (by simp;exact ⟨hp,hq⟩)
 have G4:=zm G3 F4 (by simp)
 clear A3 h3 F4 G3 E3
 go_wp2_with fail
 refine ql ⟨E4,?_⟩
 refine zr (by kernel_rfl) (fun w5 F5=>?_)
 have D5:=G4.then F5
 have h5:Zk w5 b x:=h4.up F5
 have A5:=A4.kept F5
 clear A4 h4 F5 G4 E4
 obtain ⟨c0,c1,c2,c3,c4,c5,c6,c7,c8,c9,c10,c11,c12⟩:=xe h5
 have z:=h5.frozen
 cases hv:s.can (wrap64 (x.cur+2)) x.w
 ·have hn:y=x.head:=by rw [<- HY.out];unfold Sp.next;simp [hl,hv]
  subst hn
  go_wp2_with fail
  have h6:=h5
  have A6:=A5
  have D6:=D5
  clear c0 c1 c2 c3 c4 c5 c6 c7 c8 c9 c10 c11 c12 z
  clear h5 A5 D5
  refine (Jl x hc b _ h6).mono ?_;rintro e w7 ⟨rfl,h7,F7⟩
  have A7:=A6.kept F7 (by simp;exact hp.symm) (by simp;exact hq.symm)
  have D7:=zm D6 F7 (by simp)
  clear h6 A6 D6 F7
  obtain ⟨-,-,-,-,-,-,-,c7,-,-,-,-,-⟩:=xe h7
  go_wp2_with fail
  go_ret
  exact ⟨rfl,h7,A7,D7⟩
 ·have hn:y = { x with line:=6 }:=by rw [<- HY.out];unfold Sp.next;simp [hl,hv]
  subst hn
  go_wp2_with fail
  go_ret
  exact ⟨rfl,(Ob.set h5 _),(Rar.set A5 hp hq _),(Fr.setCell' D5 _ (by simp))⟩
theorem Uv (x:Sp) (hl:x.line=5) (hc:x.c.Ok) (b p q:Nat) (s:St) (w:World) (h:Zk w b x) (hA:Rar w p q s) (hp:b≠p) (hq:b≠q) :
  Calls Tryz.prog 217 #[.pointer (some ⟨b,0,none⟩),.pointer (some ⟨p,0,none⟩)] w fun e w'=>e = .returned (.bool (decide ((x.next (qq s.l (wrap64 x.n))).line=0)))/\Zk w' b (x.next (qq s.l (wrap64 x.n)))/\Rar w' p q (s.load (wrap64 x.n))/\Fr [b,p,q] w w':=by
 generalize hy:x.next (qq s.l (wrap64 x.n))=y
 have HY:=q9 hy
 clear hy
 obtain ⟨c0,c1,c2,c3,c4,c5,c6,c7,c8,c9,c10,c11,c12⟩:=xe h
 have z:=h.frozen
 go_enter Tryz.func217,Tryz.ntmps217
 go_wp2_with fail
 have h0:=h
 have A0:=hA
 have D0:=Fr.refl [b,p,q] w
 clear h hA
 have hw0:=q9 (Eq.refl w)
 have A1:=A0
 have h1:=h0
 have D1:=D0
 clear c0 c1 c2 c3 c4 c5 c6 c7 c8 c9 c10 c11 c12 z
 refine qy (by kernel_rfl) [p,q] (fun w2 F2=>?_)
 refine epq [true,true,true,true,true,true,false,true,true,true,true,false] 2 (F2.mono) ?_
 apply qg
 refine ⟨fun wf Ff=>?_,?_⟩
 ·have hf:Zk wf b x:=Ob.kept h1 Ff (by simp;exact ⟨hp,hq⟩)
  obtain ⟨-,-,-,-,-,-,-,-,c8,-,-,c11,-⟩:=xe hf
  have k8:=qb c8
  have k11:=qb c11
  clear hf c8 c11
  simp only [sel]
  repeat (go_big_quiet_step (fail))
  exact wpQuiet_nil rfl
 refine eoq 6 (fun w3 F3=>?_)
 have E3:=F2.trans F3
 have A3:=A1.kept E3
 have h3:=Ob.up h1 E3
 have G3:=zm D1 E3 (by simp)
 clear F2 F3 A1 h1 D1 A0 h0 D0
 go_wp2_with fail
 refine (Ref.zi _ p q s _ A3).mono ?_;rintro e w4 ⟨rfl,A4,F4⟩
 have E4:=(E3.mono (T:=[p,q]) (by simp)).trans F4
 have h4:=h3.kept F4 (by simp;exact ⟨hp,hq⟩)
 have G4:=zm G3 F4 (by simp)
 clear A3 h3 F4 G3 E3
 go_wp2_with fail
 refine ql ⟨E4,?_⟩
 refine eoq 11 (fun wx Fx=>?_)
 replace E4:=E4.then Fx
 replace h4:=h4.up Fx
 replace A4:=A4.kept Fx
 replace G4:=G4.then Fx
 clear Fx
 go_wp2_with fail
 refine ql ⟨E4,?_⟩
 refine zr (by kernel_rfl) (fun w5 F5=>?_)
 have D5:=G4.then F5
 have h5:Zk w5 b x:=h4.up F5
 have A5:=A4.kept F5
 clear A4 h4 F5 G4 E4
 obtain ⟨c0,c1,c2,c3,c4,c5,c6,c7,c8,c9,c10,c11,c12⟩:=xe h5
 have z:=h5.frozen
 generalize hv:qq s.l (wrap64 x.n)=v at *
 by_cases hv0:x.m<=v
 ·have hn:y = { x with line:=6 }:=by rw [<- HY.out];unfold Sp.next;simp [hl,hv0]
  subst hn
  have g:decide (v≥x.m)=true:=by simpa using hv0
  go_wp2_with fail
  go_ret
  exact ⟨rfl,(Ob.set h5 _),(Rar.set A5 hp hq _),(Fr.setCell' D5 _ (by simp))⟩
 ·have hn:y = { x with cur:=x.n,line:=3 }:=by rw [<- HY.out];unfold Sp.next;simp [hl,hv0]
  subst hn
  have g:decide (v≥x.m)=false:=by simpa using hv0
  go_wp2_with fail
  go_ret
  exact ⟨rfl,(Ob.set (Ob.set h5 _) (i:=7) (.int .i64 3)),(Rar.set (Rar.set A5 hp hq _) hp hq (i:=7) (.int .i64 3)),(Fr.setCell' (Fr.setCell' D5 _ (by simp)) (b:=b) (i:=7) (.int .i64 3) (by simp))⟩
theorem Sz (x:Sp) (hl:x.line=6) (hc:x.c.Ok) (b p q:Nat) (s:St) (w:World) (h:Zk w b x) (hA:Rar w p q s) (hp:b≠p) (hq:b≠q) :
  Calls Tryz.prog 217 #[.pointer (some ⟨b,0,none⟩),.pointer (some ⟨p,0,none⟩)] w fun e w'=>e = .returned (.bool (decide ((x.next (x.told s)).line=0)))/\Zk w' b (x.next (x.told s))/\Rar w' p q (s.store (wrap64 (x.chunk+6)) 2)/\Fr [b,p,q] w w':=by
 generalize hy:x.next (x.told s)=y
 have HY:=q9 hy
 clear hy
 obtain ⟨c0,c1,c2,c3,c4,c5,c6,c7,c8,c9,c10,c11,c12⟩:=xe h
 have z:=h.frozen
 go_enter Tryz.func217,Tryz.ntmps217
 go_wp2_with fail
 have h0:=h
 have A0:=hA
 have D0:=Fr.refl [b,p,q] w
 clear h hA
 have hw0:=q9 (Eq.refl w)
 have A1:=A0
 have h1:=h0
 have D1:=D0
 clear c0 c1 c2 c3 c4 c5 c6 c7 c8 c9 c10 c11 c12 z
 refine (Ref.jl _ p q s _ 2 A1).mono ?_;rintro e w5 ⟨rfl,A5,F5⟩
 have h5:=Ob.kept h1 F5 (by simp;exact ⟨hp,hq⟩)
 have D5:=zm D1 F5 (by simp)
 clear A1 h1 D1 F5 A0 h0 D0
 obtain ⟨c0,c1,c2,c3,c4,c5,c6,c7,c8,c9,c10,c11,c12⟩:=xe h5
 have z:=h5.frozen
 by_cases hm:x.mate=0
 ·have hn:y = { x with line:=8 }:=by rw [<- HY.out];unfold Sp.next;simp [hl,hm]
  subst hn
  go_wp2_with fail
  go_ret
  rw [show ({ x with mate:=0,line:=8 }:Sp) = { x with line:=8 } by rw [<- hm]]
  exact ⟨rfl,(Ob.set h5 _),(Rar.set A5 hp hq _),(Fr.setCell' D5 _ (by simp))⟩
 ·have hn:y = { x with line:=7 }:=by rw [<- HY.out];unfold Sp.next;simp [hl,hm]
  subst hn
  go_wp2_with fail
  go_ret
  exact ⟨rfl,(Ob.set (Ob.set h5 _) (i:=7) (.int .i64 7)),(Rar.set (Rar.set A5 hp hq _) hp hq (i:=7) (.int .i64 7)),(Fr.setCell' (Fr.setCell' D5 _ (by simp)) (b:=b) (i:=7) (.int .i64 7) (by simp))⟩
theorem Uz (x:Sp) (hl:x.line=7) (hc:x.c.Ok) (b p q:Nat) (s:St) (w:World) (h:Zk w b x) (hA:Rar w p q s) (hp:b≠p) (hq:b≠q) :
  Calls Tryz.prog 217 #[.pointer (some ⟨b,0,none⟩),.pointer (some ⟨p,0,none⟩)] w fun e w'=>e = .returned (.bool (decide ((x.next (x.told s)).line=0)))/\Zk w' b (x.next (x.told s))/\Rar w' p q (s.store (wrap64 (x.mate+6)) 2)/\Fr [b,p,q] w w':=by
 generalize hy:x.next (x.told s)=y
 have HY:=q9 hy
 clear hy
 obtain ⟨c0,c1,c2,c3,c4,c5,c6,c7,c8,c9,c10,c11,c12⟩:=xe h
 have z:=h.frozen
 go_enter Tryz.func217,Tryz.ntmps217
 go_wp2_with fail
 have h0:=h
 have A0:=hA
 have D0:=Fr.refl [b,p,q] w
 clear h hA
 have hw0:=q9 (Eq.refl w)
 have A1:=A0
 have h1:=h0
 have D1:=D0
 clear c0 c1 c2 c3 c4 c5 c6 c7 c8 c9 c10 c11 c12 z
 refine (Ref.jl _ p q s _ 2 A1).mono ?_;rintro e w5 ⟨rfl,A5,F5⟩
 have h5:=Ob.kept h1 F5 (by simp;exact ⟨hp,hq⟩)
 have D5:=zm D1 F5 (by simp)
 clear A1 h1 D1 F5 A0 h0 D0
 obtain ⟨c0,c1,c2,c3,c4,c5,c6,c7,c8,c9,c10,c11,c12⟩:=xe h5
 have z:=h5.frozen
 have hn:y = { x with line:=8 }:=by rw [<- HY.out];unfold Sp.next;simp [hl]
 subst hn
 go_wp2_with fail
 go_ret
 exact ⟨rfl,(Ob.set h5 _),(Rar.set A5 hp hq _),(Fr.setCell' D5 _ (by simp))⟩
theorem Sg (x:Sp) (hl:x.line=8) (hc:x.c.Ok) (b p q:Nat) (s:St) (w:World) (h:Zk w b x) (hA:Rar w p q s) (hp:b≠p) (hq:b≠q) :
  Calls Tryz.prog 217 #[.pointer (some ⟨b,0,none⟩),.pointer (some ⟨p,0,none⟩)] w fun e w'=>e = .returned (.bool (decide ((x.next (x.told s)).line=0)))/\Zk w' b (x.next (x.told s))/\Rar w' p q (s.store x.hint x.repl)/\Fr [b,p,q] w w':=by
 generalize hy:x.next (x.told s)=y
 have HY:=q9 hy
 clear hy
 obtain ⟨c0,c1,c2,c3,c4,c5,c6,c7,c8,c9,c10,c11,c12⟩:=xe h
 have z:=h.frozen
 go_enter Tryz.func217,Tryz.ntmps217
 go_wp2_with fail
 have h0:=h
 have A0:=hA
 have D0:=Fr.refl [b,p,q] w
 clear h hA
 have hw0:=q9 (Eq.refl w)
 have A1:=A0
 have h1:=h0
 have D1:=D0
 clear c0 c1 c2 c3 c4 c5 c6 c7 c8 c9 c10 c11 c12 z
 refine qy (by kernel_rfl) [p,q] (fun w2 F2=>?_)
 refine epq [true,true,true,true,true,true,true,true,true,true,true,true,true,true,true,true,false] 1 (F2.mono) ?_
 apply qg
 refine ⟨fun wf Ff=>?_,?_⟩
 ·have hf:Zk wf b x:=Ob.kept h1 Ff (by simp;exact ⟨hp,hq⟩)
  obtain ⟨c0,c1,c2,c3,-,-,c6,-,c8,-,-,-,-⟩:=xe hf
  have k0:=qb c0
  have k1:=qb c1
  have k2:=qb c2
  have k3:=qb c3
  have k6:=qb c6
  have k8:=qb c8
  clear hf c0 c1 c2 c3 c6 c8
  simp only [sel]
  repeat (go_big_quiet_step ((first | (go_at_call 42;exact Calls.in_ (Ref.Ja x.c.t x.c.c x.c.wd x.c.v _ hc.t1 hc.t8 (by (repeat' split) <;> omega) (by (repeat' split) <;> omega) _)))))
  exact wpQuiet_nil rfl
 rw [qc8 x.m]
 generalize (if (63:Int)<x.m then (63:Int) else x.m)=k63
 refine eoq 16 (fun w3 F3=>?_)
 have E3:=F2.trans F3
 have A3:=A1.kept E3
 have h3:=Ob.up h1 E3
 have G3:=zm D1 E3 (by simp)
 clear F2 F3 A1 h1 D1 A0 h0 D0
 go_wp2_with fail
 refine (Ref.jl _ p q s _ _ A3).mono ?_;rintro e w4 ⟨rfl,A4,F4⟩
 have E4:=(E3.mono (T:=[p,q]) (by simp)).trans F4
 have h4:=h3.kept F4 (by simp;exact ⟨hp,hq⟩)
 have G4:=zm G3 F4 (by simp)
 clear A3 h3 F4 G3 E3
 go_wp2_with fail
 refine ql ⟨E4,?_⟩
 refine zr (by kernel_rfl) (fun w5 F5=>?_)
 have D5:=G4.then F5
 have h5:Zk w5 b x:=h4.up F5
 have A5:=A4.kept F5
 clear A4 h4 F5 G4 E4
 obtain ⟨c0,c1,c2,c3,c4,c5,c6,c7,c8,c9,c10,c11,c12⟩:=xe h5
 have z:=h5.frozen
 rw [show (3:Int)+x.c.t+hd x.m 0 63 / 16=x.hint from rfl] at A5
 have hn:y = { x with line:=0 }:=by rw [<- HY.out];unfold Sp.next;simp [hl]
 subst hn
 go_wp2_with fail
 go_ret
 exact ⟨rfl,(Ob.set h5 _),(Rar.set A5 hp hq _),(Fr.setCell' D5 _ (by simp))⟩
theorem Sr (x:Sp) (hl:x.live=false) (hc:x.c.Ok) (b p q:Nat) (w:World) (h:Zk w b x) :
  Calls Tryz.prog 217 #[.pointer (some ⟨b,0,none⟩),.pointer (some ⟨p,0,none⟩)] w fun e w'=>e = .returned (.bool (decide (x.line=0)))/\Fr [] w w':=by
 obtain ⟨c0,c1,c2,c3,c4,c5,c6,c7,c8,c9,c10,c11,c12⟩:=xe h
 unfold Sp.live at hl
 have l1:x.line≠1:=by intro h;rw [h] at hl;simp at hl
 have l3:x.line≠3:=by intro h;rw [h] at hl;simp at hl
 have l4:x.line≠4:=by intro h;rw [h] at hl;simp at hl
 have l5:x.line≠5:=by intro h;rw [h] at hl;simp at hl
 have l6:x.line≠6:=by intro h;rw [h] at hl;simp at hl
 have l7:x.line≠7:=by intro h;rw [h] at hl;simp at hl
 have l8:x.line≠8:=by intro h;rw [h] at hl;simp at hl
 clear hl
 go_enter Tryz.func217,Tryz.ntmps217
 go_wp2_with fail
 go_ret
 exact ⟨rfl,Fr.refl _ _⟩
theorem q15 (x:Sp) (hc:x.c.Ok) (b p q:Nat) (s:St) (w:World) (h:Zk w b x) (hA:Rar w p q s) (hp:b≠p) (hq:b≠q) :
  Calls Tryz.prog 217 #[.pointer (some ⟨b,0,none⟩),.pointer (some ⟨p,0,none⟩)] w fun e w'=>e = .returned (.bool (decide ((x.step s).1.line=0)))/\Zk w' b (x.step s).1/\Rar w' p q (x.step s).2/\Fr [b,p,q] w w':=by
 unfold Sp.step
 cases hl:x.live with
 | false=>exact (Sr x hl hc b p q w h).mono (by rintro e w' ⟨rfl,F⟩;exact ⟨rfl,Ob.up h F,hA.kept F,F.mono⟩)
 | true =>
  unfold Sp.live at hl
  have hl':x.line=1\/x.line=3\/x.line=4\/x.line=5\/x.line=6\/x.line=7\/x.line=8:=by
   simp only [Bool.and_eq_true,Bool.or_eq_true,decide_eq_true_eq] at hl;omega
  rw [qf rfl]
  rcases hl' with l | l | l | l | l | l | l
  ·rw [show x.act s=s.load (wrap64 x.chunk) by unfold Sp.act;simp [l],show x.told s=qq s.l (wrap64 x.chunk) by unfold Sp.told;simp [l]];exact Td x l hc b p q s w h hA hp hq
  ·rw [show x.act s=s.load (wrap64 (x.cur+2)) by unfold Sp.act;simp [l],show x.told s=qq s.l (wrap64 (x.cur+2)) by unfold Sp.told;simp [l]];exact Sd x l hc b p q s w h hA hp hq
  ·rw [show x.act s=s.swap (wrap64 (x.cur+2)) x.w (jv x.repl false) by unfold Sp.act;simp [l],show x.told s=(if s.can (wrap64 (x.cur+2)) x.w then 1 else 0) by unfold Sp.told;simp [l]];exact Tm x l hc b p q s w h hA hp hq
  ·rw [show x.act s=s.load (wrap64 x.n) by unfold Sp.act;simp [l],show x.told s=qq s.l (wrap64 x.n) by unfold Sp.told;simp [l]];exact Uv x l hc b p q s w h hA hp hq
  ·rw [show x.act s=s.store (wrap64 (x.chunk+6)) 2 by unfold Sp.act;simp [l]];exact Sz x l hc b p q s w h hA hp hq
  ·rw [show x.act s=s.store (wrap64 (x.mate+6)) 2 by unfold Sp.act;simp [l]];exact Uz x l hc b p q s w h hA hp hq
  ·rw [show x.act s=s.store x.hint x.repl by unfold Sp.act;simp [l]];exact Sg x l hc b p q s w h hA hp hq
def yj (c:Cf) (chunk mate i:Int):Int:=if i<c.c then Qg chunk i else Qg mate (wrap64 (i - c.c))
def kw (c:Cf) (mate:Int):Int:=if mate=0 then c.c else 2 * c.c
theorem xn (c:Cf) (chunk mate i:Int) (hc:c.Ok) (w:World):Calls Tryz.prog 207 #[c.val,.int .i64 chunk,.int .i64 mate,.int .i64 i] w fun e w'=>e = .returned (.int .i64 (yj c chunk mate i))/\Fr [] w w':=by
 unfold Cf.val
 have h16:=hc.c16
 have h2:=hc.c2
 have ht:=hc.t1
 have F0:=(Fr.refl [] w).alloc (.cells #[.int .i64 c.t,.int .i64 c.c,.int .i64 c.wd,.int .i64 c.v] 23)
 obtain ⟨c0,c1,c2,c3⟩:=Pl.yf (Go.heap_alloc_new w (.cells #[.int .i64 c.t,.int .i64 c.c,.int .i64 c.wd,.int .i64 c.v] 23))
 unfold yj
 by_cases h:i<c.c
 ·rw [qf h]
  have g:decide (i<c.c)=true:=by simpa using h
  go_enter Tryz.func207,Tryz.ntmps207
  go_wp2_with (go_at_call 54;refine (xy _ _ _).mono ?_;rintro e _ ⟨rfl,rfl⟩)
  go_ret
  exact ⟨rfl,F0⟩
 ·rw [qd h]
  have g:decide (i<c.c)=false:=by simpa using h
  go_enter Tryz.func207,Tryz.ntmps207
  go_wp2_with (go_at_call 54;refine (xy _ _ _).mono ?_;rintro e _ ⟨rfl,rfl⟩)
  go_ret
  exact ⟨rfl,F0⟩
theorem We (c:Cf) (mate:Int) (hc:c.Ok) (w:World):Calls Tryz.prog 208 #[c.val,.int .i64 mate] w fun e w'=>e = .returned (.int .i64 (kw c mate))/\Fr [] w w':=by
 unfold Cf.val
 have h16:=hc.c16
 have h2:=hc.c2
 have ht:=hc.t1
 have F0:=(Fr.refl [] w).alloc (.cells #[.int .i64 c.t,.int .i64 c.c,.int .i64 c.wd,.int .i64 c.v] 23)
 obtain ⟨c0,c1,c2,c3⟩:=Pl.yf (Go.heap_alloc_new w (.cells #[.int .i64 c.t,.int .i64 c.c,.int .i64 c.wd,.int .i64 c.v] 23))
 unfold kw
 by_cases h:mate=0
 ·rw [qf h]
  go_enter Tryz.func208,Tryz.ntmps208
  go_wp2
  go_ret
  exact ⟨rfl,F0⟩
 ·rw [qd h]
  go_enter Tryz.func208,Tryz.ntmps208
  go_wp2
  go_ret
  exact ⟨rfl,F0⟩
structure Sl where
 c:Cf
 chunk:Int
 mate:Int
 line:Int
 i:Int
 g:Int
def Sl.cells (x:Sl):Array Value:=#[.int .i64 x.c.t,.int .i64 x.c.c,.int .i64 x.c.wd,.int .i64 x.c.v,.int .i64 x.chunk,.int .i64 x.mate,.int .i64 x.line,.int .i64 x.i,.int .i64 x.g]
def Vl (w:World) (b:Nat) (x:Sl):Prop:=Ob w b 257 x.cells
theorem xc {w:World} {b:Nat} {x:Sl} (h:Vl w b x):w.cell? ⟨b,0,none⟩=some (.int .i64 x.c.t)/\w.cell? ⟨b,1,none⟩=some (.int .i64 x.c.c)/\w.cell? ⟨b,2,none⟩=some (.int .i64 x.c.wd)/\w.cell? ⟨b,3,none⟩=some (.int .i64 x.c.v)/\w.cell? ⟨b,4,none⟩=some (.int .i64 x.chunk)/\w.cell? ⟨b,5,none⟩=some (.int .i64 x.mate)/\w.cell? ⟨b,6,none⟩=some (.int .i64 x.line)/\w.cell? ⟨b,7,none⟩=some (.int .i64 x.i)/\w.cell? ⟨b,8,none⟩=some (.int .i64 x.g) :=
 ⟨h.cell rfl,h.cell rfl,h.cell rfl,h.cell rfl,h.cell rfl,h.cell rfl,h.cell rfl,h.cell rfl,h.cell rfl⟩
def Sl.new (c:Cf) (chunk mate:Int):Sl:=⟨c,chunk,mate,1,0,0⟩
def Sl.sa (x:Sl):Int:=yj x.c x.chunk x.mate x.i
def Sl.live (x:Sl):Bool:=decide (1<=x.line) && decide (x.line<=6)
def Sl.act (x:Sl) (s:St):St :=
 if x.line=1 then s.store (wrap64 (x.chunk+6)) 1 else if x.line=2 then s.store (wrap64 (x.mate+6)) 1 else if x.line=3 then s.load x.sa else if x.line=4 then s.swap x.sa 0 2 else if x.line=5 then s.load 1 else s.swap x.sa 1 (vq x.g)
def Sl.told (x:Sl) (s:St):Int:=if x.line=3 then qq s.l x.sa else qq s.l 1
def Sl.next (x:Sl) (v:Int):Sl :=
 if x.line=1 then (if x.mate=0 then { x with line:=3 } else { x with line:=2 })
 else if x.line=2 then { x with line:=3 }
 else if x.line=3 then (if v=0 then { x with line:=4 } else if v=1 then { x with line:=5 } else if kw x.c x.mate<=wrap64 (x.i+1) then { x with i:=wrap64 (x.i+1),line:=0 } else { x with i:=wrap64 (x.i+1) })
 else if x.line=4 then { x with line:=3 } else if x.line=5 then { x with g:=v,line:=6 } else { x with line:=3 }
def Sl.step (x:Sl) (s:St):Sl×St:=if x.live=true then (x.next (x.told s),x.act s) else (x,s)
theorem V8 (c:Cf) (chunk mate:Int) (w:World):Calls Tryz.prog 183 #[c.val,.int .i64 chunk,.int .i64 mate] w fun e w'=>∃ b,e = .returned (.pointer (some ⟨b,0,none⟩))/\w.heap.size<=b/\Vl w' b (Sl.new c chunk mate)/\Fr [] w w':=by
 unfold Cf.val
 have F0:=(Fr.refl [] w).alloc (.cells #[.int .i64 c.t,.int .i64 c.c,.int .i64 c.wd,.int .i64 c.v] 23)
 obtain ⟨c0,c1,c2,c3⟩:=Pl.yf (Go.heap_alloc_new w (.cells #[.int .i64 c.t,.int .i64 c.c,.int .i64 c.wd,.int .i64 c.v] 23))
 go_enter Tryz.func183,Tryz.ntmps183
 go_wp2
 go_ret
 exact ⟨_,rfl,by omega,Ob.newAt (Vg _ _) _ _,F0.alloc _⟩
theorem q3g (x:Sl) (hl:x.line=1) (hc:x.c.Ok) (b p q:Nat) (s:St) (w:World) (h:Vl w b x) (hA:Rar w p q s) (hp:b≠p) (hq:b≠q) :
  Calls Tryz.prog 184 #[.pointer (some ⟨b,0,none⟩),.pointer (some ⟨p,0,none⟩)] w fun e w'=>e = .returned (.bool (decide ((x.next (x.told s)).line=0)))/\Vl w' b (x.next (x.told s))/\Rar w' p q (s.store (wrap64 (x.chunk+6)) 1)/\Fr [b,p,q] w w':=by
 generalize hy:x.next (x.told s)=y
 have HY:=q9 hy
 clear hy
 obtain ⟨c0,c1,c2,c3,c4,c5,c6,c7,c8⟩:=xc h
 have z:=h.frozen
 go_enter Tryz.func184,Tryz.ntmps184
 go_wp2_with fail
 have k0:=qb c0
 have k1:=qb c1
 have k2:=qb c2
 have k3:=qb c3
 have k4:=qb c4
 have k5:=qb c5
 have k7:=qb c7
 clear c0 c1 c2 c3 c4 c5 c6 c7 c8 z
 refine wiq ?_
 repeat (go_big_quiet_step (((go_at_call 207;exact Calls.in_ (xn x.c _ _ _ hc _)))))
 refine wpQuiet_nil ?_
 intro w0 F0
 rw [show yj x.c x.chunk x.mate x.i=x.sa from rfl]
 have h0:Vl w0 b x:=Ob.up h F0
 have A0:=hA.kept F0
 have D0:Fr [b,p,q] w w0:=F0.mono
 clear k0 k1 k2 k3 k4 k5 k7 h hA F0
 obtain ⟨c0,c1,c2,c3,c4,c5,c6,c7,c8⟩:=xc h0
 have z:=h0.frozen
 go_wp2_with fail
 have A1:=A0
 have h1:=h0
 have D1:=D0
 clear c0 c1 c2 c3 c4 c5 c6 c7 c8 z
 refine (Ref.jl _ p q s _ _ A1).mono ?_;rintro e w5 ⟨rfl,A5,F5⟩
 have h5:=Ob.kept h1 F5 (by simp;exact ⟨hp,hq⟩)
 have D5:=zm D1 F5 (by simp)
 clear A1 h1 D1 F5 A0 h0 D0
 obtain ⟨c0,c1,c2,c3,c4,c5,c6,c7,c8⟩:=xc h5
 have z:=h5.frozen
 by_cases hm:x.mate=0
 ·have hn:y = { x with line:=3 }:=by rw [<- HY.out];unfold Sl.next;simp [hl,hm]
  subst hn
  go_wp2_with fail
  go_ret
  rw [show ({ x with mate:=0,line:=3 }:Sl) = { x with line:=3 } by rw [<- hm]]
  exact ⟨rfl,(Ob.set h5 _),(Rar.set A5 hp hq _),(Fr.setCell' D5 _ (by simp))⟩
 ·have hn:y = { x with line:=2 }:=by rw [<- HY.out];unfold Sl.next;simp [hl,hm]
  subst hn
  go_wp2_with fail
  go_ret
  exact ⟨rfl,(Ob.set (Ob.set h5 _) (i:=6) (.int .i64 2)),(Rar.set (Rar.set A5 hp hq _) hp hq (i:=6) (.int .i64 2)),(Fr.setCell' (Fr.setCell' D5 _ (by simp)) (b:=b) (i:=6) (.int .i64 2) (by simp))⟩
theorem q2s (x:Sl) (hl:x.line=2) (hc:x.c.Ok) (b p q:Nat) (s:St) (w:World) (h:Vl w b x) (hA:Rar w p q s) (hp:b≠p) (hq:b≠q) :
  Calls Tryz.prog 184 #[.pointer (some ⟨b,0,none⟩),.pointer (some ⟨p,0,none⟩)] w fun e w'=>e = .returned (.bool (decide ((x.next (x.told s)).line=0)))/\Vl w' b (x.next (x.told s))/\Rar w' p q (s.store (wrap64 (x.mate+6)) 1)/\Fr [b,p,q] w w':=by
 generalize hy:x.next (x.told s)=y
 have HY:=q9 hy
 clear hy
 obtain ⟨c0,c1,c2,c3,c4,c5,c6,c7,c8⟩:=xc h
 have z:=h.frozen
 go_enter Tryz.func184,Tryz.ntmps184
 go_wp2_with fail
 have k0:=qb c0
 have k1:=qb c1
 have k2:=qb c2
 have k3:=qb c3
 have k4:=qb c4
 have k5:=qb c5
 have k7:=qb c7
 clear c0 c1 c2 c3 c4 c5 c6 c7 c8 z
 refine wiq ?_
 repeat (go_big_quiet_step (((go_at_call 207;exact Calls.in_ (xn x.c _ _ _ hc _)))))
 refine wpQuiet_nil ?_
 intro w0 F0
 rw [show yj x.c x.chunk x.mate x.i=x.sa from rfl]
 have h0:Vl w0 b x:=Ob.up h F0
 have A0:=hA.kept F0
 have D0:Fr [b,p,q] w w0:=F0.mono
 clear k0 k1 k2 k3 k4 k5 k7 h hA F0
 obtain ⟨c0,c1,c2,c3,c4,c5,c6,c7,c8⟩:=xc h0
 have z:=h0.frozen
 go_wp2_with fail
 have A1:=A0
 have h1:=h0
 have D1:=D0
 clear c0 c1 c2 c3 c4 c5 c6 c7 c8 z
 refine (Ref.jl _ p q s _ _ A1).mono ?_;rintro e w5 ⟨rfl,A5,F5⟩
 have h5:=Ob.kept h1 F5 (by simp;exact ⟨hp,hq⟩)
 have D5:=zm D1 F5 (by simp)
 clear A1 h1 D1 F5 A0 h0 D0
 obtain ⟨c0,c1,c2,c3,c4,c5,c6,c7,c8⟩:=xc h5
 have z:=h5.frozen
 have hn:y = { x with line:=3 }:=by rw [<- HY.out];unfold Sl.next;simp [hl]
 subst hn
 go_wp2_with fail
 go_ret
 exact ⟨rfl,(Ob.set h5 _),(Rar.set A5 hp hq _),(Fr.setCell' D5 _ (by simp))⟩
theorem q41 (x:Sl) (hl:x.line=3) (hc:x.c.Ok) (b p q:Nat) (s:St) (w:World) (h:Vl w b x) (hA:Rar w p q s) (hp:b≠p) (hq:b≠q) :
  Calls Tryz.prog 184 #[.pointer (some ⟨b,0,none⟩),.pointer (some ⟨p,0,none⟩)] w fun e w'=>e = .returned (.bool (decide ((x.next (qq s.l x.sa)).line=0)))/\Vl w' b (x.next (qq s.l x.sa))/\Rar w' p q (s.load x.sa)/\Fr [b,p,q] w w':=by
 generalize hy:x.next (qq s.l x.sa)=y
 have HY:=q9 hy
 clear hy
 obtain ⟨c0,c1,c2,c3,c4,c5,c6,c7,c8⟩:=xc h
 have z:=h.frozen
 go_enter Tryz.func184,Tryz.ntmps184
 go_wp2_with fail
 have k0:=qb c0
 have k1:=qb c1
 have k2:=qb c2
 have k3:=qb c3
 have k4:=qb c4
 have k5:=qb c5
 have k7:=qb c7
 clear c0 c1 c2 c3 c4 c5 c6 c7 c8 z
 refine wiq ?_
 repeat (go_big_quiet_step (((go_at_call 207;exact Calls.in_ (xn x.c _ _ _ hc _)))))
 refine wpQuiet_nil ?_
 intro w0 F0
 rw [show yj x.c x.chunk x.mate x.i=x.sa from rfl]
 have h0:Vl w0 b x:=Ob.up h F0
 have A0:=hA.kept F0
 have D0:Fr [b,p,q] w w0:=F0.mono
 clear k0 k1 k2 k3 k4 k5 k7 h hA F0
 obtain ⟨c0,c1,c2,c3,c4,c5,c6,c7,c8⟩:=xc h0
 have z:=h0.frozen
 go_wp2_with fail
 have A1:=A0
 have h1:=h0
 have D1:=D0
 clear c0 c1 c2 c3 c4 c5 c6 c7 c8 z
 refine (Ref.zi _ p q s _ A1).mono ?_;rintro e w5 ⟨rfl,A5,F5⟩
 have h5:=Ob.kept h1 F5 (by simp;exact ⟨hp,hq⟩)
 have D5:=zm D1 F5 (by simp)
 clear A1 h1 D1 F5 A0 h0 D0
 obtain ⟨c0,c1,c2,c3,c4,c5,c6,c7,c8⟩:=xc h5
 have z:=h5.frozen
 generalize hv:qq s.l x.sa=v at *
 by_cases hv0:v=0
 ·have hn:y = { x with line:=4 }:=by rw [<- HY.out];unfold Sl.next;simp [hl,hv0]
  subst hn
  go_wp2_with fail
  go_ret
  exact ⟨rfl,(Ob.set h5 _),(Rar.set A5 hp hq _),(Fr.setCell' D5 _ (by simp))⟩
 by_cases hv1:v=1
 ·have hn:y = { x with line:=5 }:=by rw [<- HY.out];unfold Sl.next;simp [hl,hv1]
  subst hn
  go_wp2_with fail
  go_ret
  exact ⟨rfl,(Ob.set h5 _),(Rar.set A5 hp hq _),(Fr.setCell' D5 _ (by simp))⟩
 have hv2:¬ (v=0\/v=1):=by omega
 go_wp2_with fail
 have e3:({ x with i:=wrap64 (x.i+1),line:=3 }:Sl) = { x with i:=wrap64 (x.i+1) }:=by rw [<- hl]
 have h6:Vl (w5.setCell ⟨b,7,none⟩ (.int .i64 (wrap64 (x.i+1)))) b { x with i:=wrap64 (x.i+1),line:=3 }:=by rw [e3];exact Ob.set h5 (i:=7) (.int .i64 (wrap64 (x.i+1)))
 have A6:=Rar.set A5 hp hq (i:=7) (.int .i64 (wrap64 (x.i+1)))
 have D6:=Fr.setCell' D5 (b:=b) (i:=7) (.int .i64 (wrap64 (x.i+1))) (by simp)
 clear h5 A5 D5 z c0 c1 c2 c3 c4 c5 c6 c7 c8 e3
 generalize (w5.setCell ⟨b,7,none⟩ (.int .i64 (wrap64 (x.i+1))))=w6 at *
 obtain ⟨c0,c1,c2,c3,c4,c5,c6,c7,c8⟩:=xc h6
 have k0:=qb c0
 have k1:=qb c1
 have k2:=qb c2
 have k3:=qb c3
 have k5:=qb c5
 have k7:=qb c7
 clear c0 c1 c2 c3 c4 c5 c6 c7 c8
 refine wiq ?_
 repeat (go_big_quiet_step ((go_at_call 208;exact Calls.in_ (We x.c _ hc _))))
 refine wpQuiet_nil ?_
 intro w7 F7
 have h5:=Ob.up h6 F7
 have A5:=A6.kept F7
 have D5:=D6.then F7
 clear h6 A6 D6 F7 k0 k1 k2 k3 k5 k7
 obtain ⟨c0,c1,c2,c3,c4,c5,c6,c7,c8⟩:=xc h5
 have z:=h5.frozen
 by_cases hv3:kw x.c x.mate<=wrap64 (x.i+1)
 ·have hn:y = { x with i:=wrap64 (x.i+1),line:=0 }:=by rw [<- HY.out];unfold Sl.next;simp [hl,hv0,hv1,hv3]
  subst hn
  have g:decide (wrap64 (x.i+1)≥kw x.c x.mate)=true:=by simpa using hv3
  go_wp2_with fail
  go_ret
  exact ⟨rfl,(Ob.set h5 _),(Rar.set A5 hp hq _),(Fr.setCell' D5 _ (by simp))⟩
 ·have hn:y = { x with i:=wrap64 (x.i+1),line:=3 }:=by rw [<- HY.out];unfold Sl.next;simp [hl,hv0,hv1,hv3]
  subst hn
  have g:decide (wrap64 (x.i+1)≥kw x.c x.mate)=false:=by simpa using hv3
  go_wp2_with fail
  go_ret
  exact ⟨rfl,h5,A5,D5⟩
theorem q4b (x:Sl) (hl:x.line=4) (hc:x.c.Ok) (b p q:Nat) (s:St) (w:World) (h:Vl w b x) (hA:Rar w p q s) (hp:b≠p) (hq:b≠q) :
  Calls Tryz.prog 184 #[.pointer (some ⟨b,0,none⟩),.pointer (some ⟨p,0,none⟩)] w fun e w'=>e = .returned (.bool (decide ((x.next (x.told s)).line=0)))/\Vl w' b (x.next (x.told s))/\Rar w' p q (s.swap x.sa 0 2)/\Fr [b,p,q] w w':=by
 generalize hy:x.next (x.told s)=y
 have HY:=q9 hy
 clear hy
 obtain ⟨c0,c1,c2,c3,c4,c5,c6,c7,c8⟩:=xc h
 have z:=h.frozen
 go_enter Tryz.func184,Tryz.ntmps184
 go_wp2_with fail
 have k0:=qb c0
 have k1:=qb c1
 have k2:=qb c2
 have k3:=qb c3
 have k4:=qb c4
 have k5:=qb c5
 have k7:=qb c7
 clear c0 c1 c2 c3 c4 c5 c6 c7 c8 z
 refine wiq ?_
 repeat (go_big_quiet_step (((go_at_call 207;exact Calls.in_ (xn x.c _ _ _ hc _)))))
 refine wpQuiet_nil ?_
 intro w0 F0
 rw [show yj x.c x.chunk x.mate x.i=x.sa from rfl]
 have h0:Vl w0 b x:=Ob.up h F0
 have A0:=hA.kept F0
 have D0:Fr [b,p,q] w w0:=F0.mono
 clear k0 k1 k2 k3 k4 k5 k7 h hA F0
 obtain ⟨c0,c1,c2,c3,c4,c5,c6,c7,c8⟩:=xc h0
 have z:=h0.frozen
 go_wp2_with fail
 have A1:=A0
 have h1:=h0
 have D1:=D0
 clear c0 c1 c2 c3 c4 c5 c6 c7 c8 z
 refine (Ref.yt _ p q s _ 0 2 A1).mono ?_;rintro e w5 ⟨rfl,A5,F5⟩
 have h5:=Ob.kept h1 F5 (by simp;exact ⟨hp,hq⟩)
 have D5:=zm D1 F5 (by simp)
 clear A1 h1 D1 F5 A0 h0 D0
 obtain ⟨c0,c1,c2,c3,c4,c5,c6,c7,c8⟩:=xc h5
 have z:=h5.frozen
 have hn:y = { x with line:=3 }:=by rw [<- HY.out];unfold Sl.next;simp [hl]
 subst hn
 go_wp2_with fail
 go_ret
 exact ⟨rfl,(Ob.set h5 _),(Rar.set A5 hp hq _),(Fr.setCell' D5 _ (by simp))⟩
theorem q3t (x:Sl) (hl:x.line=5) (hc:x.c.Ok) (b p q:Nat) (s:St) (w:World) (h:Vl w b x) (hA:Rar w p q s) (hp:b≠p) (hq:b≠q) :
  Calls Tryz.prog 184 #[.pointer (some ⟨b,0,none⟩),.pointer (some ⟨p,0,none⟩)] w fun e w'=>e = .returned (.bool (decide ((x.next (qq s.l 1)).line=0)))/\Vl w' b (x.next (qq s.l 1))/\Rar w' p q (s.load 1)/\Fr [b,p,q] w w':=by
 generalize hy:x.next (qq s.l 1)=y
 have HY:=q9 hy
 clear hy
 obtain ⟨c0,c1,c2,c3,c4,c5,c6,c7,c8⟩:=xc h
 have z:=h.frozen
 go_enter Tryz.func184,Tryz.ntmps184
 go_wp2_with fail
 have k0:=qb c0
 have k1:=qb c1
 have k2:=qb c2
 have k3:=qb c3
 have k4:=qb c4
 have k5:=qb c5
 have k7:=qb c7
 clear c0 c1 c2 c3 c4 c5 c6 c7 c8 z
 refine wiq ?_
 repeat (go_big_quiet_step (((go_at_call 207;exact Calls.in_ (xn x.c _ _ _ hc _)))))
 refine wpQuiet_nil ?_
 intro w0 F0
 rw [show yj x.c x.chunk x.mate x.i=x.sa from rfl]
 have h0:Vl w0 b x:=Ob.up h F0
 have A0:=hA.kept F0
 have D0:Fr [b,p,q] w w0:=F0.mono
 clear k0 k1 k2 k3 k4 k5 k7 h hA F0
 obtain ⟨c0,c1,c2,c3,c4,c5,c6,c7,c8⟩:=xc h0
 have z:=h0.frozen
 go_wp2_with fail
 have A1:=A0
 have h1:=h0
 have D1:=D0
 clear c0 c1 c2 c3 c4 c5 c6 c7 c8 z
 refine (Ref.zi _ p q s 1 A1).mono ?_;rintro e w5 ⟨rfl,A5,F5⟩
 have h5:=Ob.kept h1 F5 (by simp;exact ⟨hp,hq⟩)
 have D5:=zm D1 F5 (by simp)
 clear A1 h1 D1 F5 A0 h0 D0
 obtain ⟨c0,c1,c2,c3,c4,c5,c6,c7,c8⟩:=xc h5
 have z:=h5.frozen
 have hn:y = { x with g:=qq s.l 1,line:=6 }:=by rw [<- HY.out];unfold Sl.next;simp [hl]
 subst hn
 go_wp2_with fail
 go_ret
 exact ⟨rfl,(Ob.set (Ob.set h5 _) (i:=6) (.int .i64 6)),(Rar.set (Rar.set A5 hp hq _) hp hq (i:=6) (.int .i64 6)),(Fr.setCell' (Fr.setCell' D5 _ (by simp)) (b:=b) (i:=6) (.int .i64 6) (by simp))⟩
theorem q4d (x:Sl) (hl:x.line=6) (hc:x.c.Ok) (b p q:Nat) (s:St) (w:World) (h:Vl w b x) (hA:Rar w p q s) (hp:b≠p) (hq:b≠q) :
  Calls Tryz.prog 184 #[.pointer (some ⟨b,0,none⟩),.pointer (some ⟨p,0,none⟩)] w fun e w'=>e = .returned (.bool (decide ((x.next (x.told s)).line=0)))/\Vl w' b (x.next (x.told s))/\Rar w' p q (s.swap x.sa 1 (vq x.g))/\Fr [b,p,q] w w':=by
 generalize hy:x.next (x.told s)=y
 have HY:=q9 hy
 clear hy
 obtain ⟨c0,c1,c2,c3,c4,c5,c6,c7,c8⟩:=xc h
 have z:=h.frozen
 go_enter Tryz.func184,Tryz.ntmps184
 go_wp2_with fail
 have k0:=qb c0
 have k1:=qb c1
 have k2:=qb c2
 have k3:=qb c3
 have k4:=qb c4
 have k5:=qb c5
 have k7:=qb c7
 clear c0 c1 c2 c3 c4 c5 c6 c7 c8 z
 refine wiq ?_
 repeat (go_big_quiet_step (((go_at_call 207;exact Calls.in_ (xn x.c _ _ _ hc _)))))
 refine wpQuiet_nil ?_
 intro w0 F0
 rw [show yj x.c x.chunk x.mate x.i=x.sa from rfl]
 have h0:Vl w0 b x:=Ob.up h F0
 have A0:=hA.kept F0
 have D0:Fr [b,p,q] w w0:=F0.mono
 clear k0 k1 k2 k3 k4 k5 k7 h hA F0
 obtain ⟨c0,c1,c2,c3,c4,c5,c6,c7,c8⟩:=xc h0
 have z:=h0.frozen
 go_wp2_with fail
 refine (X8 _ _).mono ?_;rintro e _ ⟨rfl,rfl⟩
 go_wp2_with fail
 have A1:=A0
 have h1:=h0
 have D1:=D0
 clear c0 c1 c2 c3 c4 c5 c6 c7 c8 z
 refine (Ref.yt _ p q s _ 1 _ A1).mono ?_;rintro e w5 ⟨rfl,A5,F5⟩
 have h5:=Ob.kept h1 F5 (by simp;exact ⟨hp,hq⟩)
 have D5:=zm D1 F5 (by simp)
 clear A1 h1 D1 F5 A0 h0 D0
 obtain ⟨c0,c1,c2,c3,c4,c5,c6,c7,c8⟩:=xc h5
 have z:=h5.frozen
 have hn:y = { x with line:=3 }:=by rw [<- HY.out];unfold Sl.next;simp [hl]
 subst hn
 go_wp2_with fail
 go_ret
 exact ⟨rfl,(Ob.set h5 _),(Rar.set A5 hp hq _),(Fr.setCell' D5 _ (by simp))⟩
theorem q40 (x:Sl) (hl:x.live=false) (hc:x.c.Ok) (b p q:Nat) (w:World) (h:Vl w b x) :
  Calls Tryz.prog 184 #[.pointer (some ⟨b,0,none⟩),.pointer (some ⟨p,0,none⟩)] w fun e w'=>e = .returned (.bool (decide (x.line=0)))/\Fr [] w w':=by
 obtain ⟨c0,c1,c2,c3,c4,c5,c6,c7,c8⟩:=xc h
 unfold Sl.live at hl
 have l1:x.line≠1:=by intro h;rw [h] at hl;simp at hl
 have l2:x.line≠2:=by intro h;rw [h] at hl;simp at hl
 have l3:x.line≠3:=by intro h;rw [h] at hl;simp at hl
 have l4:x.line≠4:=by intro h;rw [h] at hl;simp at hl
 have l5:x.line≠5:=by intro h;rw [h] at hl;simp at hl
 have l6:x.line≠6:=by intro h;rw [h] at hl;simp at hl
 clear hl
 go_enter Tryz.func184,Tryz.ntmps184
 go_wp2_with fail
 have hcl:=c6
 have k0:=qb c0
 have k1:=qb c1
 have k2:=qb c2
 have k3:=qb c3
 have k4:=qb c4
 have k5:=qb c5
 have k7:=qb c7
 clear c0 c1 c2 c3 c4 c5 c6 c7 c8
 refine wiq ?_
 repeat (go_big_quiet_step (((go_at_call 207;exact Calls.in_ (xn x.c _ _ _ hc _)))))
 refine wpQuiet_nil ?_
 intro w0 F0
 rw [show yj x.c x.chunk x.mate x.i=x.sa from rfl]
 have c6:=F0.cell hcl (by simp)
 go_wp2_with fail
 go_ret
 exact ⟨rfl,F0⟩
theorem q4s (x:Sl) (hc:x.c.Ok) (b p q:Nat) (s:St) (w:World) (h:Vl w b x) (hA:Rar w p q s) (hp:b≠p) (hq:b≠q) :
  Calls Tryz.prog 184 #[.pointer (some ⟨b,0,none⟩),.pointer (some ⟨p,0,none⟩)] w fun e w'=>e = .returned (.bool (decide ((x.step s).1.line=0)))/\Vl w' b (x.step s).1/\Rar w' p q (x.step s).2/\Fr [b,p,q] w w':=by
 unfold Sl.step
 cases hl:x.live with
 | false=>exact (q40 x hl hc b p q w h).mono (by rintro e w' ⟨rfl,F⟩;exact ⟨rfl,Ob.up h F,hA.kept F,F.mono⟩)
 | true =>
  unfold Sl.live at hl
  have hl':x.line=1\/x.line=2\/x.line=3\/x.line=4\/x.line=5\/x.line=6:=by
   simp only [Bool.and_eq_true,Bool.or_eq_true,decide_eq_true_eq] at hl;omega
  rw [qf rfl]
  rcases hl' with l | l | l | l | l | l
  ·rw [show x.act s=s.store (wrap64 (x.chunk+6)) 1 by unfold Sl.act;simp [l]];exact q3g x l hc b p q s w h hA hp hq
  ·rw [show x.act s=s.store (wrap64 (x.mate+6)) 1 by unfold Sl.act;simp [l]];exact q2s x l hc b p q s w h hA hp hq
  ·rw [show x.act s=s.load x.sa by unfold Sl.act;simp [l],show x.told s=qq s.l x.sa by unfold Sl.told;simp [l]];exact q41 x l hc b p q s w h hA hp hq
  ·rw [show x.act s=s.swap x.sa 0 2 by unfold Sl.act;simp [l]];exact q4b x l hc b p q s w h hA hp hq
  ·rw [show x.act s=s.load 1 by unfold Sl.act;simp [l],show x.told s=qq s.l 1 by unfold Sl.told;simp [l]];exact q3t x l hc b p q s w h hA hp hq
  ·rw [show x.act s=s.swap x.sa 1 (vq x.g) by unfold Sl.act;simp [l]];exact q4d x l hc b p q s w h hA hp hq
structure Ld where
 c:Cf
 chunk:Int
 draw:Bool
 drew:Bool
 line:Int
 l:Int
 n:Int
 w:Int
 mate:Int
 alone:Bool
 after:Int
def Ld.cells (x:Ld):Array Value:=#[.int .i64 x.c.t,.int .i64 x.c.c,.int .i64 x.c.wd,.int .i64 x.c.v,.int .i64 x.chunk,.bool x.draw,.bool x.drew,.int .i64 x.line,.int .i64 x.l,.int .i64 x.n,.int .i64 x.w,.int .i64 x.mate,.bool x.alone,.int .i64 x.after]
def vn (w:World) (b:Nat) (x:Ld):Prop:=Ob w b 233 x.cells
theorem ze {w:World} {b:Nat} {x:Ld} (h:vn w b x):w.cell? ⟨b,0,none⟩=some (.int .i64 x.c.t)/\w.cell? ⟨b,1,none⟩=some (.int .i64 x.c.c)/\w.cell? ⟨b,2,none⟩=some (.int .i64 x.c.wd)/\w.cell? ⟨b,3,none⟩=some (.int .i64 x.c.v)/\w.cell? ⟨b,4,none⟩=some (.int .i64 x.chunk)/\w.cell? ⟨b,5,none⟩=some (.bool x.draw)/\w.cell? ⟨b,6,none⟩=some (.bool x.drew)/\w.cell? ⟨b,7,none⟩=some (.int .i64 x.line)/\w.cell? ⟨b,8,none⟩=some (.int .i64 x.l)/\w.cell? ⟨b,9,none⟩=some (.int .i64 x.n)/\w.cell? ⟨b,10,none⟩=some (.int .i64 x.w)/\w.cell? ⟨b,11,none⟩=some (.int .i64 x.mate)/\w.cell? ⟨b,12,none⟩=some (.bool x.alone)/\w.cell? ⟨b,13,none⟩=some (.int .i64 x.after) :=
 ⟨h.cell rfl,h.cell rfl,h.cell rfl,h.cell rfl,h.cell rfl,h.cell rfl,h.cell rfl,h.cell rfl,h.cell rfl,h.cell rfl,h.cell rfl,h.cell rfl,h.cell rfl,h.cell rfl⟩
def or1 (w:Int):Int:=bits .or .i64 w 1
def Ld.new (c:Cf) (chunk:Int) (draw:Bool):Ld:=⟨c,chunk,draw,false,1,0,0,0,0,false,0⟩
def Ld.toAlone (x:Ld):Ld:={ x with alone:=true,after:=x.n,line:=0 }
def Ld.eight (x:Ld):Ld:=if x.mate=1\/x.n=0 then Ld.toAlone { x with line:=8 } else { x with line:=8 }
def Ld.live (x:Ld):Bool:=decide (1<=x.line) && decide (x.line<=11)
def Ld.who (x:Ld):Int:=if x.draw=true/\x.n≠0 then x.n else 1
def Ld.act (x:Ld) (s:St):St :=
 if x.line=1 then s.swap (wrap64 (x.chunk+3)) 0 x.chunk else if x.line=2 then s.load (wrap64 (x.chunk+3)) else if x.line=3 then s.load (wrap64 (x.l+2))
 else if x.line=4 then s.swap (wrap64 (x.l+2)) x.w (or1 x.w) else if x.line=5 then s.load (wrap64 (x.l+4)) else if x.line=6 then s.swap (wrap64 (x.l+4)) 0 x.who else if x.line=7 then s.load (wrap64 (x.l+4))
 else if x.line=8 then s.swap (wrap64 (x.n+3)) 0 x.l else if x.line=9 then s.load (wrap64 (x.n+3)) else if x.line=10 then s.load (wrap64 (x.n+2)) else s.swap (wrap64 (x.n+2)) x.w (or1 x.w)
def Ld.told (x:Ld) (s:St):Int :=
 if x.line=2 then qq s.l (wrap64 (x.chunk+3)) else if x.line=3 then qq s.l (wrap64 (x.l+2)) else if x.line=5\/x.line=7 then qq s.l (wrap64 (x.l+4)) else if x.line=9 then qq s.l (wrap64 (x.n+3)) else qq s.l (wrap64 (x.n+2))
def Ld.next (x:Ld) (v:Int):Ld :=
 if x.line=1 then { x with line:=2 } else if x.line=2 then { x with l:=v,line:=3 }
 else if x.line=3 then (if Jy v=true then { x with w:=v,n:=atW v,line:=5 } else { x with w:=v,line:=4 })
 else if x.line=4 then { x with line:=3 }
 else if x.line=5 then (if v=0 then { x with mate:=0,line:=6 } else Ld.eight { x with mate:=v,line:=6 })
 else if x.line=6 then { x with drew:=true,line:=7 } else if x.line=7 then Ld.eight { x with mate:=v }
 else if x.line=8 then { x with line:=9 } else if x.line=9 then (if v=x.l then { x with line:=10 } else Ld.toAlone { x with line:=10 })
 else if x.line=10 then (if Jy v=true then { x with w:=v,after:=atW v,line:=0 } else { x with w:=v,line:=11 })
 else { x with line:=10 }
def Ld.step (x:Ld) (s:St):Ld×St:=if x.live=true then (x.next (x.told s),x.act s) else (x,s)
theorem V9 (c:Cf) (chunk:Int) (draw:Bool) (w:World):Calls Tryz.prog 218 #[c.val,.int .i64 chunk,.bool draw] w fun e w'=>∃ b,e = .returned (.pointer (some ⟨b,0,none⟩))/\w.heap.size<=b/\vn w' b (Ld.new c chunk draw)/\Fr [] w w':=by
 unfold Cf.val
 have F0:=(Fr.refl [] w).alloc (.cells #[.int .i64 c.t,.int .i64 c.c,.int .i64 c.wd,.int .i64 c.v] 23)
 obtain ⟨c0,c1,c2,c3⟩:=Pl.yf (Go.heap_alloc_new w (.cells #[.int .i64 c.t,.int .i64 c.c,.int .i64 c.wd,.int .i64 c.v] 23))
 go_enter Tryz.func218,Tryz.ntmps218
 go_wp2
 go_ret
 exact ⟨_,rfl,by omega,Ob.newAt (Vg _ _) _ _,F0.alloc _⟩
theorem Yf (x:Ld) (b:Nat) (w:World) (h:vn w b x):Calls Tryz.prog 224 #[.pointer (some ⟨b,0,none⟩)] w fun e w'=>e = .returned (.tuple #[])/\vn w' b x.toAlone/\Fr [b] w w':=by
 obtain ⟨c0,c1,c2,c3,c4,c5,c6,c7,c8,c9,c10,c11,c12,c13⟩:=ze h
 have z:=h.frozen
 go_enter Tryz.func224,Tryz.ntmps224
 go_wp2
 go_end0
 exact ⟨rfl,((Ob.set h _).set _).set _,((Fr.setCell _ (by simp)).setCell' _ (by simp)).setCell' _ (by simp)⟩
theorem Kz (x:Ld) (b:Nat) (w:World) (h:vn w b x):Calls Tryz.prog 205 #[.pointer (some ⟨b,0,none⟩)] w fun e w'=>e = .returned (.tuple #[])/\vn w' b x.eight/\Fr [b] w w':=by
 generalize hy:x.eight=y
 have HY:=q9 hy
 clear hy
 obtain ⟨c0,c1,c2,c3,c4,c5,c6,c7,c8,c9,c10,c11,c12,c13⟩:=ze h
 have z:=h.frozen
 by_cases hm:x.mate=1
 ·have hn:y=Ld.toAlone { x with line:=8 }:=by rw [<- HY.out];unfold Ld.eight;simp [hm]
  have HN:=q9 hn
  clear hn
  go_enter Tryz.func205,Tryz.ntmps205
  go_wp2_with fail
  have h1:vn _ b { x with line:=8 }:=Ob.set h (i:=7) (.int .i64 8)
  have D1:Fr [b] w (w.setCell ⟨b,7,none⟩ (.int .i64 8)):=Fr.setCell _ (by simp)
  refine (Yf { x with line:=8 } b _ h1).mono ?_;rintro e w2 ⟨rfl,h2,F2⟩
  go_wp2
  go_end0
  exact ⟨rfl,by rw [HN.out];exact h2,D1.trans F2⟩
 ·by_cases hn0:x.n=0
  ·have hn:y=Ld.toAlone { x with line:=8 }:=by rw [<- HY.out];unfold Ld.eight;simp [hn0]
   have HN:=q9 hn
   clear hn
   go_enter Tryz.func205,Tryz.ntmps205
   go_wp2_with fail
   have h1:vn _ b { x with line:=8 }:=Ob.set h (i:=7) (.int .i64 8)
   have D1:Fr [b] w (w.setCell ⟨b,7,none⟩ (.int .i64 8)):=Fr.setCell _ (by simp)
   refine (Yf { x with line:=8 } b _ h1).mono ?_;rintro e w2 ⟨rfl,h2,F2⟩
   go_wp2
   go_end0
   exact ⟨rfl,by rw [HN.out];exact h2,D1.trans F2⟩
  ·have hn:y = { x with line:=8 }:=by rw [<- HY.out];unfold Ld.eight;simp [hm,hn0]
   have HN:=q9 hn
   clear hn
   go_enter Tryz.func205,Tryz.ntmps205
   have b1:(x.mate == 1)=false:=by simpa using hm
   have b2:(x.n == 0)=false:=by simpa using hn0
   go_wp2_with fail
   go_end0
   exact ⟨rfl,by rw [HN.out];exact Ob.set h _,Fr.setCell _ (by simp)⟩
theorem q2r (x:Ld) (hl:x.line=1) (hc:x.c.Ok) (b p q:Nat) (s:St) (w:World) (h:vn w b x) (hA:Rar w p q s) (hp:b≠p) (hq:b≠q) :
  Calls Tryz.prog 181 #[.pointer (some ⟨b,0,none⟩),.pointer (some ⟨p,0,none⟩)] w fun e w'=>e = .returned (.bool (decide ((x.next (x.told s)).line=0)))/\vn w' b (x.next (x.told s))/\Rar w' p q (s.swap (wrap64 (x.chunk+3)) 0 x.chunk)/\Fr [b,p,q] w w':=by
 generalize hy:x.next (x.told s)=y
 have HY:=q9 hy
 clear hy
 obtain ⟨c0,c1,c2,c3,c4,c5,c6,c7,c8,c9,c10,c11,c12,c13⟩:=ze h
 have z:=h.frozen
 go_enter Tryz.func181,Tryz.ntmps181
 go_wp2_with fail
 have h0:=h
 have A0:=hA
 have D0:=Fr.refl [b,p,q] w
 clear h hA
 have hw0:=q9 (Eq.refl w)
 have A1:=A0
 have h1:=h0
 have D1:=D0
 clear c0 c1 c2 c3 c4 c5 c6 c7 c8 c9 c10 c11 c12 c13 z
 refine qy (by kernel_rfl) [p,q] (fun w2 F2=>?_)
 refine epq [true,true,true,true,true,true,true,true,true,true,false] 1 (F2.mono) ?_
 apply qg
 refine ⟨fun wf Ff=>?_,?_⟩
 ·have hf:vn wf b x:=Ob.kept h1 Ff (by simp;exact ⟨hp,hq⟩)
  obtain ⟨-,-,-,-,c4,-,-,-,-,-,-,-,-,-⟩:=ze hf
  have k4:=qb c4
  clear hf c4
  simp only [sel]
  repeat (go_big_quiet_step (fail))
  exact wpQuiet_nil rfl
 refine eoq 10 (fun w3 F3=>?_)
 have E3:=F2.trans F3
 have A3:=A1.kept E3
 have h3:=Ob.up h1 E3
 have G3:=zm D1 E3 (by simp)
 clear F2 F3 A1 h1 D1 A0 h0 D0
 go_wp2_with fail
 refine (Ref.yt _ p q s _ 0 _ A3).mono ?_;rintro e w4 ⟨rfl,A4,F4⟩
 have E4:=(E3.mono (T:=[p,q]) (by simp)).trans F4
 have h4:=h3.kept F4 (by simp;exact ⟨hp,hq⟩)
 have G4:=zm G3 F4 (by simp)
 clear A3 h3 F4 G3 E3
 go_wp2_with fail
 refine ql ⟨E4,?_⟩
 refine zr (by kernel_rfl) (fun w5 F5=>?_)
 have D5:=G4.then F5
 have h5:vn w5 b x:=h4.up F5
 have A5:=A4.kept F5
 clear A4 h4 F5 G4 E4
 obtain ⟨c0,c1,c2,c3,c4,c5,c6,c7,c8,c9,c10,c11,c12,c13⟩:=ze h5
 have z:=h5.frozen
 have hn:y = { x with line:=2 }:=by rw [<- HY.out];unfold Ld.next;simp [hl]
 subst hn
 go_wp2_with fail
 go_ret
 exact ⟨rfl,(Ob.set h5 _),(Rar.set A5 hp hq _),(Fr.setCell' D5 _ (by simp))⟩
theorem q39 (x:Ld) (hl:x.line=2) (hc:x.c.Ok) (b p q:Nat) (s:St) (w:World) (h:vn w b x) (hA:Rar w p q s) (hp:b≠p) (hq:b≠q) :
  Calls Tryz.prog 181 #[.pointer (some ⟨b,0,none⟩),.pointer (some ⟨p,0,none⟩)] w fun e w'=>e = .returned (.bool (decide ((x.next (qq s.l (wrap64 (x.chunk+3)))).line=0)))/\vn w' b (x.next (qq s.l (wrap64 (x.chunk+3))))/\Rar w' p q (s.load (wrap64 (x.chunk+3)))/\Fr [b,p,q] w w':=by
 generalize hy:x.next (qq s.l (wrap64 (x.chunk+3)))=y
 have HY:=q9 hy
 clear hy
 obtain ⟨c0,c1,c2,c3,c4,c5,c6,c7,c8,c9,c10,c11,c12,c13⟩:=ze h
 have z:=h.frozen
 go_enter Tryz.func181,Tryz.ntmps181
 go_wp2_with fail
 have h0:=h
 have A0:=hA
 have D0:=Fr.refl [b,p,q] w
 clear h hA
 have hw0:=q9 (Eq.refl w)
 have A1:=A0
 have h1:=h0
 have D1:=D0
 clear c0 c1 c2 c3 c4 c5 c6 c7 c8 c9 c10 c11 c12 c13 z
 refine (Ref.zi _ p q s _ A1).mono ?_;rintro e w5 ⟨rfl,A5,F5⟩
 have h5:=Ob.kept h1 F5 (by simp;exact ⟨hp,hq⟩)
 have D5:=zm D1 F5 (by simp)
 clear A1 h1 D1 F5 A0 h0 D0
 obtain ⟨c0,c1,c2,c3,c4,c5,c6,c7,c8,c9,c10,c11,c12,c13⟩:=ze h5
 have z:=h5.frozen
 have hn:y = { x with l:=qq s.l (wrap64 (x.chunk+3)),line:=3 }:=by rw [<- HY.out];unfold Ld.next;simp [hl]
 subst hn
 go_wp2_with fail
 go_ret
 exact ⟨rfl,(Ob.set (Ob.set h5 (i:=8) (.int .i64 (qq s.l (wrap64 (x.chunk+3))))) (i:=7) (.int .i64 3)),(Rar.set (Rar.set A5 hp hq (i:=8) (.int .i64 (qq s.l (wrap64 (x.chunk+3))))) hp hq (i:=7) (.int .i64 3)),(Fr.setCell' (Fr.setCell' D5 (b:=b) (i:=8) (.int .i64 (qq s.l (wrap64 (x.chunk+3)))) (by simp)) (b:=b) (i:=7) (.int .i64 3) (by simp))⟩
theorem q4c (x:Ld) (hl:x.line=3) (hc:x.c.Ok) (b p q:Nat) (s:St) (w:World) (h:vn w b x) (hA:Rar w p q s) (hp:b≠p) (hq:b≠q) :
  Calls Tryz.prog 181 #[.pointer (some ⟨b,0,none⟩),.pointer (some ⟨p,0,none⟩)] w fun e w'=>e = .returned (.bool (decide ((x.next (qq s.l (wrap64 (x.l+2)))).line=0)))/\vn w' b (x.next (qq s.l (wrap64 (x.l+2))))/\Rar w' p q (s.load (wrap64 (x.l+2)))/\Fr [b,p,q] w w':=by
 generalize hy:x.next (qq s.l (wrap64 (x.l+2)))=y
 have HY:=q9 hy
 clear hy
 obtain ⟨c0,c1,c2,c3,c4,c5,c6,c7,c8,c9,c10,c11,c12,c13⟩:=ze h
 have z:=h.frozen
 go_enter Tryz.func181,Tryz.ntmps181
 go_wp2_with fail
 have h0:=h
 have A0:=hA
 have D0:=Fr.refl [b,p,q] w
 clear h hA
 have hw0:=q9 (Eq.refl w)
 have A1:=A0
 have h1:=h0
 have D1:=D0
 clear c0 c1 c2 c3 c4 c5 c6 c7 c8 c9 c10 c11 c12 c13 z
 refine (Ref.zi _ p q s _ A1).mono ?_;rintro e w5 ⟨rfl,A5,F5⟩
 have h5:=Ob.kept h1 F5 (by simp;exact ⟨hp,hq⟩)
 have D5:=zm D1 F5 (by simp)
 clear A1 h1 D1 F5 A0 h0 D0
 obtain ⟨c0,c1,c2,c3,c4,c5,c6,c7,c8,c9,c10,c11,c12,c13⟩:=ze h5
 have z:=h5.frozen
 generalize hv:qq s.l (wrap64 (x.l+2))=v at *
 go_wp2_with fail
 have h6:vn _ b { x with w:=v,line:=4 }:=Ob.set (Ob.set h5 (i:=10) (.int .i64 v)) (i:=7) (.int .i64 4)
 have A6:=Rar.set (Rar.set A5 hp hq (i:=10) (.int .i64 v)) hp hq (i:=7) (.int .i64 4)
 have D6:=Fr.setCell' (Fr.setCell' D5 (b:=b) (i:=10) (.int .i64 v) (by simp)) (b:=b) (i:=7) (.int .i64 4) (by simp)
 generalize ((w5.setCell ⟨b,10,none⟩ (.int .i64 v)).setCell ⟨b,7,none⟩ (.int .i64 4))=w6 at *
 clear h5 A5 D5
 clear c0 c1 c2 c3 c4 c5 c6 c7 c8 c9 c10 c11 c12 c13 z
 refine (Yi _ _).mono ?_;rintro e _ ⟨rfl,rfl⟩
 obtain ⟨c0,c1,c2,c3,c4,c5,c6,c7,c8,c9,c10,c11,c12,c13⟩:=ze h6
 have z:=h6.frozen
 cases hm:Jy v
 ·have hn:y = { x with w:=v,line:=4 }:=by rw [<- HY.out];unfold Ld.next;simp [hl,hm]
  subst hn
  go_wp2_with fail
  go_ret
  exact ⟨rfl,h6,A6,D6⟩
 ·have hn:y = { x with w:=v,n:=atW v,line:=5 }:=by rw [<- HY.out];unfold Ld.next;simp [hl,hm]
  subst hn
  go_wp2_with fail
  refine (Vn _ _).mono ?_;rintro e _ ⟨rfl,rfl⟩
  go_wp2_with fail
  go_ret
  exact ⟨rfl,(Ob.set (Ob.set h6 _) (i:=7) (.int .i64 5)),(Rar.set (Rar.set A6 hp hq _) hp hq (i:=7) (.int .i64 5)),(Fr.setCell' (Fr.setCell' D6 _ (by simp)) (b:=b) (i:=7) (.int .i64 5) (by simp))⟩
theorem q2h (x:Ld) (hl:x.line=4) (hc:x.c.Ok) (b p q:Nat) (s:St) (w:World) (h:vn w b x) (hA:Rar w p q s) (hp:b≠p) (hq:b≠q) :
  Calls Tryz.prog 181 #[.pointer (some ⟨b,0,none⟩),.pointer (some ⟨p,0,none⟩)] w fun e w'=>e = .returned (.bool (decide ((x.next (x.told s)).line=0)))/\vn w' b (x.next (x.told s))/\Rar w' p q (s.swap (wrap64 (x.l+2)) x.w (or1 x.w))/\Fr [b,p,q] w w':=by
 generalize hy:x.next (x.told s)=y
 have HY:=q9 hy
 clear hy
 obtain ⟨c0,c1,c2,c3,c4,c5,c6,c7,c8,c9,c10,c11,c12,c13⟩:=ze h
 have z:=h.frozen
 go_enter Tryz.func181,Tryz.ntmps181
 go_wp2_with fail
 have h0:=h
 have A0:=hA
 have D0:=Fr.refl [b,p,q] w
 clear h hA
 have hw0:=q9 (Eq.refl w)
 have A1:=A0
 have h1:=h0
 have D1:=D0
 clear c0 c1 c2 c3 c4 c5 c6 c7 c8 c9 c10 c11 c12 c13 z
 refine qy (by kernel_rfl) [p,q] (fun w2 F2=>?_)
 refine epq [true,true,true,true,true,true,true,true,true,true,true,true,true,true,true,false] 1 (F2.mono) ?_
 apply qg
 refine ⟨fun wf Ff=>?_,?_⟩
 ·have hf:vn wf b x:=Ob.kept h1 Ff (by simp;exact ⟨hp,hq⟩)
  obtain ⟨-,-,-,-,-,-,-,-,c8,-,c10,-,-,-⟩:=ze hf
  have k8:=qb c8
  have k10:=qb c10
  clear hf c8 c10
  simp only [sel]
  repeat (go_big_quiet_step (fail))
  exact wpQuiet_nil rfl
 refine eoq 15 (fun w3 F3=>?_)
 have E3:=F2.trans F3
 have A3:=A1.kept E3
 have h3:=Ob.up h1 E3
 have G3:=zm D1 E3 (by simp)
 clear F2 F3 A1 h1 D1 A0 h0 D0
 go_wp2_with fail
 refine (Ref.yt _ p q s _ _ _ A3).mono ?_;rintro e w4 ⟨rfl,A4,F4⟩
 have E4:=(E3.mono (T:=[p,q]) (by simp)).trans F4
 have h4:=h3.kept F4 (by simp;exact ⟨hp,hq⟩)
 have G4:=zm G3 F4 (by simp)
 clear A3 h3 F4 G3 E3
 go_wp2_with fail
 refine ql ⟨E4,?_⟩
 refine zr (by kernel_rfl) (fun w5 F5=>?_)
 have D5:=G4.then F5
 have h5:vn w5 b x:=h4.up F5
 have A5:=A4.kept F5
 clear A4 h4 F5 G4 E4
 obtain ⟨c0,c1,c2,c3,c4,c5,c6,c7,c8,c9,c10,c11,c12,c13⟩:=ze h5
 have z:=h5.frozen
 rw [show bits .or .i64 x.w 1=or1 x.w from rfl] at A5 ⊢
 have hn:y = { x with line:=3 }:=by rw [<- HY.out];unfold Ld.next;simp [hl]
 subst hn
 go_wp2_with fail
 go_ret
 exact ⟨rfl,(Ob.set h5 _),(Rar.set A5 hp hq _),(Fr.setCell' D5 _ (by simp))⟩
theorem q4l (x:Ld) (hl:x.line=5) (hc:x.c.Ok) (b p q:Nat) (s:St) (w:World) (h:vn w b x) (hA:Rar w p q s) (hp:b≠p) (hq:b≠q) :
  Calls Tryz.prog 181 #[.pointer (some ⟨b,0,none⟩),.pointer (some ⟨p,0,none⟩)] w fun e w'=>e = .returned (.bool (decide ((x.next (qq s.l (wrap64 (x.l+4)))).line=0)))/\vn w' b (x.next (qq s.l (wrap64 (x.l+4))))/\Rar w' p q (s.load (wrap64 (x.l+4)))/\Fr [b,p,q] w w':=by
 generalize hy:x.next (qq s.l (wrap64 (x.l+4)))=y
 have HY:=q9 hy
 clear hy
 obtain ⟨c0,c1,c2,c3,c4,c5,c6,c7,c8,c9,c10,c11,c12,c13⟩:=ze h
 have z:=h.frozen
 go_enter Tryz.func181,Tryz.ntmps181
 go_wp2_with fail
 have h0:=h
 have A0:=hA
 have D0:=Fr.refl [b,p,q] w
 clear h hA
 have hw0:=q9 (Eq.refl w)
 have A1:=A0
 have h1:=h0
 have D1:=D0
 clear c0 c1 c2 c3 c4 c5 c6 c7 c8 c9 c10 c11 c12 c13 z
 refine (Ref.zi _ p q s _ A1).mono ?_;rintro e w5 ⟨rfl,A5,F5⟩
 have h5:=Ob.kept h1 F5 (by simp;exact ⟨hp,hq⟩)
 have D5:=zm D1 F5 (by simp)
 clear A1 h1 D1 F5 A0 h0 D0
 obtain ⟨c0,c1,c2,c3,c4,c5,c6,c7,c8,c9,c10,c11,c12,c13⟩:=ze h5
 have z:=h5.frozen
 generalize hv:qq s.l (wrap64 (x.l+4))=v at *
 by_cases hv0:v=0
 ·have hn:y = { x with mate:=0,line:=6 }:=by rw [<- HY.out];unfold Ld.next;simp [hl,hv0]
  subst hn
  go_wp2_with fail
  go_ret
  exact ⟨rfl,(Ob.set (Ob.set h5 _) (i:=7) (.int .i64 6)),(Rar.set (Rar.set A5 hp hq _) hp hq (i:=7) (.int .i64 6)),(Fr.setCell' (Fr.setCell' D5 _ (by simp)) (b:=b) (i:=7) (.int .i64 6) (by simp))⟩
 ·have hn:y=Ld.eight { x with mate:=v,line:=6 }:=by rw [<- HY.out];unfold Ld.next;simp [hl,hv0]
  subst hn
  go_wp2_with fail
  have h6:vn _ b { x with mate:=v,line:=6 }:=(Ob.set (Ob.set h5 (i:=11) (.int .i64 v)) (i:=7) (.int .i64 6))
  have A6:=(Rar.set (Rar.set A5 hp hq (i:=11) (.int .i64 v)) hp hq (i:=7) (.int .i64 6))
  have D6:=(Fr.setCell' (Fr.setCell' D5 (b:=b) (i:=11) (.int .i64 v) (by simp)) (b:=b) (i:=7) (.int .i64 6) (by simp))
  generalize ((w5.setCell ⟨b,11,none⟩ (.int .i64 v)).setCell ⟨b,7,none⟩ (.int .i64 6))=w6 at *
  clear c0 c1 c2 c3 c4 c5 c6 c7 c8 c9 c10 c11 c12 c13 z
  clear h5 A5 D5
  refine (Kz { x with mate:=v,line:=6 } b _ h6).mono ?_;rintro e w7 ⟨rfl,h7,F7⟩
  have A7:=A6.kept F7 (by simp;exact hp.symm) (by simp;exact hq.symm)
  have D7:=zm D6 F7 (by simp)
  clear h6 A6 D6 F7
  obtain ⟨-,-,-,-,-,-,-,c7,-,-,-,-,-,-⟩:=ze h7
  go_wp2_with fail
  go_ret
  exact ⟨rfl,h7,A7,D7⟩
theorem q0i (x:Ld) (hl:x.line=6) (hd:x.draw=false) (hc:x.c.Ok) (b p q:Nat) (s:St) (w:World) (h:vn w b x) (hA:Rar w p q s) (hp:b≠p) (hq:b≠q) :
  Calls Tryz.prog 181 #[.pointer (some ⟨b,0,none⟩),.pointer (some ⟨p,0,none⟩)] w fun e w'=>e = .returned (.bool (decide ((x.next (x.told s)).line=0)))/\vn w' b (x.next (x.told s))/\Rar w' p q (s.swap (wrap64 (x.l+4)) 0 x.who)/\Fr [b,p,q] w w':=by
 generalize hy:x.next (x.told s)=y
 have HY:=q9 hy
 clear hy
 obtain ⟨c0,c1,c2,c3,c4,c5,c6,c7,c8,c9,c10,c11,c12,c13⟩:=ze h
 have z:=h.frozen
 rw [hd] at c5
 have HW:=q9 (show x.who=1 by unfold Ld.who;simp [hd])
 clear hd
 go_enter Tryz.func181,Tryz.ntmps181
 go_wp2_with fail
 have h0:=h
 have A0:=hA
 have D0:=Fr.refl [b,p,q] w
 clear h hA
 have hw0:=q9 (Eq.refl w)
 have A1:=A0
 have h1:=h0
 have D1:=D0
 clear c0 c1 c2 c3 c4 c5 c6 c7 c8 c9 c10 c11 c12 c13 z
 refine (Ref.yt _ p q s _ 0 _ A1).mono ?_;rintro e w5 ⟨rfl,A5,F5⟩
 have h5:=Ob.kept h1 F5 (by simp;exact ⟨hp,hq⟩)
 have D5:=zm D1 F5 (by simp)
 clear A1 h1 D1 F5 A0 h0 D0
 obtain ⟨c0,c1,c2,c3,c4,c5,c6,c7,c8,c9,c10,c11,c12,c13⟩:=ze h5
 have z:=h5.frozen
 rw [<- HW.out] at A5
 have hn:y = { x with drew:=true,line:=7 }:=by rw [<- HY.out];unfold Ld.next;simp [hl]
 subst hn
 go_wp2_with fail
 go_ret
 exact ⟨rfl,(Ob.set (Ob.set h5 _) (i:=7) (.int .i64 7)),(Rar.set (Rar.set A5 hp hq _) hp hq (i:=7) (.int .i64 7)),(Fr.setCell' (Fr.setCell' D5 _ (by simp)) (b:=b) (i:=7) (.int .i64 7) (by simp))⟩
theorem q0e (x:Ld) (hl:x.line=6) (hd:x.draw=true) (hn0:x.n=0) (hc:x.c.Ok) (b p q:Nat) (s:St) (w:World) (h:vn w b x) (hA:Rar w p q s) (hp:b≠p) (hq:b≠q) :
  Calls Tryz.prog 181 #[.pointer (some ⟨b,0,none⟩),.pointer (some ⟨p,0,none⟩)] w fun e w'=>e = .returned (.bool (decide ((x.next (x.told s)).line=0)))/\vn w' b (x.next (x.told s))/\Rar w' p q (s.swap (wrap64 (x.l+4)) 0 x.who)/\Fr [b,p,q] w w':=by
 generalize hy:x.next (x.told s)=y
 have HY:=q9 hy
 clear hy
 obtain ⟨c0,c1,c2,c3,c4,c5,c6,c7,c8,c9,c10,c11,c12,c13⟩:=ze h
 have z:=h.frozen
 rw [hd] at c5
 have HW:=q9 (show x.who=1 by unfold Ld.who;simp [hn0])
 have b2:(x.n != 0)=false:=by simp [hn0]
 clear hd hn0
 go_enter Tryz.func181,Tryz.ntmps181
 go_wp2_with fail
 have h0:=h
 have A0:=hA
 have D0:=Fr.refl [b,p,q] w
 clear h hA
 have hw0:=q9 (Eq.refl w)
 have A1:=A0
 have h1:=h0
 have D1:=D0
 clear c0 c1 c2 c3 c4 c5 c6 c7 c8 c9 c10 c11 c12 c13 z
 refine (Ref.yt _ p q s _ 0 _ A1).mono ?_;rintro e w5 ⟨rfl,A5,F5⟩
 have h5:=Ob.kept h1 F5 (by simp;exact ⟨hp,hq⟩)
 have D5:=zm D1 F5 (by simp)
 clear A1 h1 D1 F5 A0 h0 D0
 obtain ⟨c0,c1,c2,c3,c4,c5,c6,c7,c8,c9,c10,c11,c12,c13⟩:=ze h5
 have z:=h5.frozen
 rw [<- HW.out] at A5
 have hn:y = { x with drew:=true,line:=7 }:=by rw [<- HY.out];unfold Ld.next;simp [hl]
 subst hn
 go_wp2_with fail
 go_ret
 exact ⟨rfl,(Ob.set (Ob.set h5 _) (i:=7) (.int .i64 7)),(Rar.set (Rar.set A5 hp hq _) hp hq (i:=7) (.int .i64 7)),(Fr.setCell' (Fr.setCell' D5 _ (by simp)) (b:=b) (i:=7) (.int .i64 7) (by simp))⟩
theorem q19 (x:Ld) (hl:x.line=6) (hd:x.draw=true) (hn0:¬ x.n=0) (hc:x.c.Ok) (b p q:Nat) (s:St) (w:World) (h:vn w b x) (hA:Rar w p q s) (hp:b≠p) (hq:b≠q) :
  Calls Tryz.prog 181 #[.pointer (some ⟨b,0,none⟩),.pointer (some ⟨p,0,none⟩)] w fun e w'=>e = .returned (.bool (decide ((x.next (x.told s)).line=0)))/\vn w' b (x.next (x.told s))/\Rar w' p q (s.swap (wrap64 (x.l+4)) 0 x.who)/\Fr [b,p,q] w w':=by
 generalize hy:x.next (x.told s)=y
 have HY:=q9 hy
 clear hy
 obtain ⟨c0,c1,c2,c3,c4,c5,c6,c7,c8,c9,c10,c11,c12,c13⟩:=ze h
 have z:=h.frozen
 rw [hd] at c5
 have HW:=q9 (show x.who=x.n by unfold Ld.who;simp [hd,hn0])
 have b2:(x.n != 0)=true:=by simpa using hn0
 clear hd hn0
 go_enter Tryz.func181,Tryz.ntmps181
 go_wp2_with fail
 have h0:=h
 have A0:=hA
 have D0:=Fr.refl [b,p,q] w
 clear h hA
 have hw0:=q9 (Eq.refl w)
 have A1:=A0
 have h1:=h0
 have D1:=D0
 clear c0 c1 c2 c3 c4 c5 c6 c7 c8 c9 c10 c11 c12 c13 z
 refine (Ref.yt _ p q s _ 0 _ A1).mono ?_;rintro e w5 ⟨rfl,A5,F5⟩
 have h5:=Ob.kept h1 F5 (by simp;exact ⟨hp,hq⟩)
 have D5:=zm D1 F5 (by simp)
 clear A1 h1 D1 F5 A0 h0 D0
 obtain ⟨c0,c1,c2,c3,c4,c5,c6,c7,c8,c9,c10,c11,c12,c13⟩:=ze h5
 have z:=h5.frozen
 rw [<- HW.out] at A5
 have hn:y = { x with drew:=true,line:=7 }:=by rw [<- HY.out];unfold Ld.next;simp [hl]
 subst hn
 go_wp2_with fail
 go_ret
 exact ⟨rfl,(Ob.set (Ob.set h5 _) (i:=7) (.int .i64 7)),(Rar.set (Rar.set A5 hp hq _) hp hq (i:=7) (.int .i64 7)),(Fr.setCell' (Fr.setCell' D5 _ (by simp)) (b:=b) (i:=7) (.int .i64 7) (by simp))⟩
theorem q3i (x:Ld) (hl:x.line=6) (hc:x.c.Ok) (b p q:Nat) (s:St) (w:World) (h:vn w b x) (hA:Rar w p q s) (hp:b≠p) (hq:b≠q) :
  Calls Tryz.prog 181 #[.pointer (some ⟨b,0,none⟩),.pointer (some ⟨p,0,none⟩)] w fun e w'=>e = .returned (.bool (decide ((x.next (x.told s)).line=0)))/\vn w' b (x.next (x.told s))/\Rar w' p q (s.swap (wrap64 (x.l+4)) 0 x.who)/\Fr [b,p,q] w w':=by
 cases hd:x.draw
 ·exact q0i x hl hd hc b p q s w h hA hp hq
 ·by_cases hn0:x.n=0
  ·exact q0e x hl hd hn0 hc b p q s w h hA hp hq
  ·exact q19 x hl hd hn0 hc b p q s w h hA hp hq
theorem q33 (x:Ld) (hl:x.line=7) (hc:x.c.Ok) (b p q:Nat) (s:St) (w:World) (h:vn w b x) (hA:Rar w p q s) (hp:b≠p) (hq:b≠q) :
  Calls Tryz.prog 181 #[.pointer (some ⟨b,0,none⟩),.pointer (some ⟨p,0,none⟩)] w fun e w'=>e = .returned (.bool (decide ((x.next (qq s.l (wrap64 (x.l+4)))).line=0)))/\vn w' b (x.next (qq s.l (wrap64 (x.l+4))))/\Rar w' p q (s.load (wrap64 (x.l+4)))/\Fr [b,p,q] w w':=by
 generalize hy:x.next (qq s.l (wrap64 (x.l+4)))=y
 have HY:=q9 hy
 clear hy
 obtain ⟨c0,c1,c2,c3,c4,c5,c6,c7,c8,c9,c10,c11,c12,c13⟩:=ze h
 have z:=h.frozen
 go_enter Tryz.func181,Tryz.ntmps181
 go_wp2_with fail
 have h0:=h
 have A0:=hA
 have D0:=Fr.refl [b,p,q] w
 clear h hA
 have hw0:=q9 (Eq.refl w)
 have A1:=A0
 have h1:=h0
 have D1:=D0
 clear c0 c1 c2 c3 c4 c5 c6 c7 c8 c9 c10 c11 c12 c13 z
 refine (Ref.zi _ p q s _ A1).mono ?_;rintro e w5 ⟨rfl,A5,F5⟩
 have h5:=Ob.kept h1 F5 (by simp;exact ⟨hp,hq⟩)
 have D5:=zm D1 F5 (by simp)
 clear A1 h1 D1 F5 A0 h0 D0
 obtain ⟨c0,c1,c2,c3,c4,c5,c6,c7,c8,c9,c10,c11,c12,c13⟩:=ze h5
 have z:=h5.frozen
 generalize hv:qq s.l (wrap64 (x.l+4))=v at *
 have hn:y=Ld.eight { x with mate:=v }:=by rw [<- HY.out];unfold Ld.next;simp [hl]
 subst hn
 go_wp2_with fail
 have h6:vn _ b { x with mate:=v }:=(Ob.set h5 (i:=11) (.int .i64 v))
 have A6:=(Rar.set A5 hp hq (i:=11) (.int .i64 v))
 have D6:=(Fr.setCell' D5 (b:=b) (i:=11) (.int .i64 v) (by simp))
 generalize (w5.setCell ⟨b,11,none⟩ (.int .i64 v))=w6 at *
 clear c0 c1 c2 c3 c4 c5 c6 c7 c8 c9 c10 c11 c12 c13 z
 clear h5 A5 D5
 refine (Kz { x with mate:=v } b _ h6).mono ?_;rintro e w7 ⟨rfl,h7,F7⟩
 have A7:=A6.kept F7 (by simp;exact hp.symm) (by simp;exact hq.symm)
 have D7:=zm D6 F7 (by simp)
 clear h6 A6 D6 F7
 obtain ⟨-,-,-,-,-,-,-,c7,-,-,-,-,-,-⟩:=ze h7
 go_wp2_with fail
 go_ret
 exact ⟨rfl,h7,A7,D7⟩
theorem q2y (x:Ld) (hl:x.line=8) (hc:x.c.Ok) (b p q:Nat) (s:St) (w:World) (h:vn w b x) (hA:Rar w p q s) (hp:b≠p) (hq:b≠q) :
  Calls Tryz.prog 206 #[.pointer (some ⟨b,0,none⟩),.pointer (some ⟨p,0,none⟩)] w fun e w'=>e = .returned (.tuple #[])/\vn w' b (x.next (x.told s))/\Rar w' p q (s.swap (wrap64 (x.n+3)) 0 x.l)/\Fr [b,p,q] w w':=by
 generalize hy:x.next (x.told s)=y
 have HY:=q9 hy
 clear hy
 obtain ⟨c0,c1,c2,c3,c4,c5,c6,c7,c8,c9,c10,c11,c12,c13⟩:=ze h
 have z:=h.frozen
 go_enter Tryz.func206,Tryz.ntmps206
 go_wp2_with fail
 have h0:=h
 have A0:=hA
 have D0:=Fr.refl [b,p,q] w
 clear h hA
 have hw0:=q9 (Eq.refl w)
 have A1:=A0
 have h1:=h0
 have D1:=D0
 clear c0 c1 c2 c3 c4 c5 c6 c7 c8 c9 c10 c11 c12 c13 z
 refine qy (by kernel_rfl) [p,q] (fun w2 F2=>?_)
 refine epq [true,true,true,true,true,true,true,true,true,true,false] 1 (F2.mono) ?_
 apply qg
 refine ⟨fun wf Ff=>?_,?_⟩
 ·have hf:vn wf b x:=Ob.kept h1 Ff (by simp;exact ⟨hp,hq⟩)
  obtain ⟨-,-,-,-,-,-,-,-,c8,c9,-,-,-,-⟩:=ze hf
  have k8:=qb c8
  have k9:=qb c9
  clear hf c8 c9
  simp only [sel]
  repeat (go_big_quiet_step (fail))
  exact wpQuiet_nil rfl
 refine eoq 10 (fun w3 F3=>?_)
 have E3:=F2.trans F3
 have A3:=A1.kept E3
 have h3:=Ob.up h1 E3
 have G3:=zm D1 E3 (by simp)
 clear F2 F3 A1 h1 D1 A0 h0 D0
 go_wp2_with fail
 refine (Ref.yt _ p q s _ 0 _ A3).mono ?_;rintro e w4 ⟨rfl,A4,F4⟩
 have E4:=(E3.mono (T:=[p,q]) (by simp)).trans F4
 have h4:=h3.kept F4 (by simp;exact ⟨hp,hq⟩)
 have G4:=zm G3 F4 (by simp)
 clear A3 h3 F4 G3 E3
 go_wp2_with fail
 refine ql ⟨E4,?_⟩
 refine zr (by kernel_rfl) (fun w5 F5=>?_)
 have D5:=G4.then F5
 have h5:vn w5 b x:=h4.up F5
 have A5:=A4.kept F5
 clear A4 h4 F5 G4 E4
 obtain ⟨c0,c1,c2,c3,c4,c5,c6,c7,c8,c9,c10,c11,c12,c13⟩:=ze h5
 have z:=h5.frozen
 have hn:y = { x with line:=9 }:=by rw [<- HY.out];unfold Ld.next;simp [hl]
 subst hn
 go_wp2_with fail
 go_end0
 exact ⟨rfl,(Ob.set h5 _),(Rar.set A5 hp hq _),(Fr.setCell' D5 _ (by simp))⟩
theorem q2v (x:Ld) (hl:x.line=9) (hc:x.c.Ok) (b p q:Nat) (s:St) (w:World) (h:vn w b x) (hA:Rar w p q s) (hp:b≠p) (hq:b≠q) :
  Calls Tryz.prog 206 #[.pointer (some ⟨b,0,none⟩),.pointer (some ⟨p,0,none⟩)] w fun e w'=>e = .returned (.tuple #[])/\vn w' b (x.next (qq s.l (wrap64 (x.n+3))))/\Rar w' p q (s.load (wrap64 (x.n+3)))/\Fr [b,p,q] w w':=by
 generalize hy:x.next (qq s.l (wrap64 (x.n+3)))=y
 have HY:=q9 hy
 clear hy
 obtain ⟨c0,c1,c2,c3,c4,c5,c6,c7,c8,c9,c10,c11,c12,c13⟩:=ze h
 have z:=h.frozen
 go_enter Tryz.func206,Tryz.ntmps206
 go_wp2_with fail
 have h0:=h
 have A0:=hA
 have D0:=Fr.refl [b,p,q] w
 clear h hA
 have hw0:=q9 (Eq.refl w)
 have A1:=(Rar.set A0 hp hq (i:=7) (.int .i64 10))
 have h1:vn _ b { x with line:=10 }:=(Ob.set h0 (i:=7) (.int .i64 10))
 have D1:=(Fr.setCell' D0 (b:=b) (i:=7) (.int .i64 10) (by simp))
 clear c0 c1 c2 c3 c4 c5 c6 c7 c8 c9 c10 c11 c12 c13 z
 generalize (w.setCell ⟨b,7,none⟩ (.int .i64 10))=w1 at *
 refine qy (by kernel_rfl) [p,q] (fun w2 F2=>?_)
 refine epq [true,true,true,true,true,true,false,true,true,true,true,false] 2 (F2.mono) ?_
 apply qg
 refine ⟨fun wf Ff=>?_,?_⟩
 ·have hf:vn wf b { x with line:=10 }:=Ob.kept h1 Ff (by simp;exact ⟨hp,hq⟩)
  obtain ⟨-,-,-,-,-,-,-,-,c8,c9,-,-,-,-⟩:=ze hf
  have k8:=qb c8
  have k9:=qb c9
  clear hf c8 c9
  simp only [sel]
  repeat (go_big_quiet_step (fail))
  exact wpQuiet_nil rfl
 refine eoq 6 (fun w3 F3=>?_)
 have E3:=F2.trans F3
 have A3:=A1.kept E3
 have h3:=Ob.up h1 E3
 have G3:=zm D1 E3 (by simp)
 clear F2 F3 A1 h1 D1 A0 h0 D0
 go_wp2_with fail
 refine (Ref.zi _ p q s _ A3).mono ?_;rintro e w4 ⟨rfl,A4,F4⟩
 have E4:=(E3.mono (T:=[p,q]) (by simp)).trans F4
 have h4:=h3.kept F4 (by simp;exact ⟨hp,hq⟩)
 have G4:=zm G3 F4 (by simp)
 clear A3 h3 F4 G3 E3
 go_wp2_with fail
 refine ql ⟨E4,?_⟩
 refine eoq 11 (fun wx Fx=>?_)
 replace E4:=E4.then Fx
 replace h4:=h4.up Fx
 replace A4:=A4.kept Fx
 replace G4:=G4.then Fx
 clear Fx
 go_wp2_with fail
 refine ql ⟨E4,?_⟩
 refine zr (by kernel_rfl) (fun w5 F5=>?_)
 have D5:=G4.then F5
 have h5:vn w5 b { x with line:=10 }:=h4.up F5
 have A5:=A4.kept F5
 clear A4 h4 F5 G4 E4
 obtain ⟨c0,c1,c2,c3,c4,c5,c6,c7,c8,c9,c10,c11,c12,c13⟩:=ze h5
 have z:=h5.frozen
 generalize hv:qq s.l (wrap64 (x.n+3))=v at *
 by_cases hv0:v=x.l
 ·have hn:y = { x with line:=10 }:=by rw [<- HY.out];unfold Ld.next;simp [hl,hv0]
  subst hn
  have g:(v != x.l)=false:=by simp [hv0]
  go_wp2_with fail
  go_end0
  exact ⟨rfl,h5,A5,D5⟩
 ·have hn:y=Ld.toAlone { x with line:=10 }:=by rw [<- HY.out];unfold Ld.next;simp [hl,hv0]
  subst hn
  have g:(v != x.l)=true:=by simpa using hv0
  go_wp2_with fail
  have h6:=h5
  have A6:=A5
  have D6:=D5
  clear c0 c1 c2 c3 c4 c5 c6 c7 c8 c9 c10 c11 c12 c13 z
  clear h5 A5 D5
  refine (Yf { x with line:=10 } b _ h6).mono ?_;rintro e w7 ⟨rfl,h7,F7⟩
  have A7:=A6.kept F7 (by simp;exact hp.symm) (by simp;exact hq.symm)
  have D7:=zm D6 F7 (by simp)
  clear h6 A6 D6 F7
  obtain ⟨-,-,-,-,-,-,-,c7,-,-,-,-,-,-⟩:=ze h7
  go_wp2_with fail
  go_end0
  exact ⟨rfl,h7,A7,D7⟩
theorem q1a (x:Ld) (hl:x.line=10) (hc:x.c.Ok) (b p q:Nat) (s:St) (w:World) (h:vn w b x) (hA:Rar w p q s) (hp:b≠p) (hq:b≠q) :
  Calls Tryz.prog 206 #[.pointer (some ⟨b,0,none⟩),.pointer (some ⟨p,0,none⟩)] w fun e w'=>e = .returned (.tuple #[])/\vn w' b (x.next (qq s.l (wrap64 (x.n+2))))/\Rar w' p q (s.load (wrap64 (x.n+2)))/\Fr [b,p,q] w w':=by
 generalize hy:x.next (qq s.l (wrap64 (x.n+2)))=y
 have HY:=q9 hy
 clear hy
 obtain ⟨c0,c1,c2,c3,c4,c5,c6,c7,c8,c9,c10,c11,c12,c13⟩:=ze h
 have z:=h.frozen
 go_enter Tryz.func206,Tryz.ntmps206
 go_wp2_with fail
 have h0:=h
 have A0:=hA
 have D0:=Fr.refl [b,p,q] w
 clear h hA
 have hw0:=q9 (Eq.refl w)
 have A1:=A0
 have h1:=h0
 have D1:=D0
 clear c0 c1 c2 c3 c4 c5 c6 c7 c8 c9 c10 c11 c12 c13 z
 refine (Ref.zi _ p q s _ A1).mono ?_;rintro e w5 ⟨rfl,A5,F5⟩
 have h5:=Ob.kept h1 F5 (by simp;exact ⟨hp,hq⟩)
 have D5:=zm D1 F5 (by simp)
 clear A1 h1 D1 F5 A0 h0 D0
 obtain ⟨c0,c1,c2,c3,c4,c5,c6,c7,c8,c9,c10,c11,c12,c13⟩:=ze h5
 have z:=h5.frozen
 generalize hv:qq s.l (wrap64 (x.n+2))=v at *
 go_wp2_with fail
 have h6:vn _ b { x with w:=v,line:=11 }:=Ob.set (Ob.set h5 (i:=10) (.int .i64 v)) (i:=7) (.int .i64 11)
 have A6:=Rar.set (Rar.set A5 hp hq (i:=10) (.int .i64 v)) hp hq (i:=7) (.int .i64 11)
 have D6:=Fr.setCell' (Fr.setCell' D5 (b:=b) (i:=10) (.int .i64 v) (by simp)) (b:=b) (i:=7) (.int .i64 11) (by simp)
 generalize ((w5.setCell ⟨b,10,none⟩ (.int .i64 v)).setCell ⟨b,7,none⟩ (.int .i64 11))=w6 at *
 clear h5 A5 D5
 clear c0 c1 c2 c3 c4 c5 c6 c7 c8 c9 c10 c11 c12 c13 z
 refine (Yi _ _).mono ?_;rintro e _ ⟨rfl,rfl⟩
 obtain ⟨c0,c1,c2,c3,c4,c5,c6,c7,c8,c9,c10,c11,c12,c13⟩:=ze h6
 have z:=h6.frozen
 cases hm:Jy v
 ·have hn:y = { x with w:=v,line:=11 }:=by rw [<- HY.out];unfold Ld.next;simp [hl,hm]
  subst hn
  go_wp2_with fail
  go_end0
  exact ⟨rfl,h6,A6,D6⟩
 ·have hn:y = { x with w:=v,after:=atW v,line:=0 }:=by rw [<- HY.out];unfold Ld.next;simp [hl,hm]
  subst hn
  go_wp2_with fail
  refine (Vn _ _).mono ?_;rintro e _ ⟨rfl,rfl⟩
  go_wp2_with fail
  go_end0
  exact ⟨rfl,(Ob.set (Ob.set h6 _) (i:=7) (.int .i64 0)),(Rar.set (Rar.set A6 hp hq _) hp hq (i:=7) (.int .i64 0)),(Fr.setCell' (Fr.setCell' D6 _ (by simp)) (b:=b) (i:=7) (.int .i64 0) (by simp))⟩
theorem q0n (x:Ld) (hl:x.line=11) (hc:x.c.Ok) (b p q:Nat) (s:St) (w:World) (h:vn w b x) (hA:Rar w p q s) (hp:b≠p) (hq:b≠q) :
  Calls Tryz.prog 206 #[.pointer (some ⟨b,0,none⟩),.pointer (some ⟨p,0,none⟩)] w fun e w'=>e = .returned (.tuple #[])/\vn w' b (x.next (x.told s))/\Rar w' p q (s.swap (wrap64 (x.n+2)) x.w (or1 x.w))/\Fr [b,p,q] w w':=by
 generalize hy:x.next (x.told s)=y
 have HY:=q9 hy
 clear hy
 obtain ⟨c0,c1,c2,c3,c4,c5,c6,c7,c8,c9,c10,c11,c12,c13⟩:=ze h
 have z:=h.frozen
 go_enter Tryz.func206,Tryz.ntmps206
 go_wp2_with fail
 have h0:=h
 have A0:=hA
 have D0:=Fr.refl [b,p,q] w
 clear h hA
 have hw0:=q9 (Eq.refl w)
 have A1:=A0
 have h1:=h0
 have D1:=D0
 clear c0 c1 c2 c3 c4 c5 c6 c7 c8 c9 c10 c11 c12 c13 z
 refine qy (by kernel_rfl) [p,q] (fun w2 F2=>?_)
 refine epq [true,true,true,true,true,true,true,true,true,true,true,true,true,true,true,false] 1 (F2.mono) ?_
 apply qg
 refine ⟨fun wf Ff=>?_,?_⟩
 ·have hf:vn wf b x:=Ob.kept h1 Ff (by simp;exact ⟨hp,hq⟩)
  obtain ⟨-,-,-,-,-,-,-,-,-,c9,c10,-,-,-⟩:=ze hf
  have k9:=qb c9
  have k10:=qb c10
  clear hf c9 c10
  simp only [sel]
  repeat (go_big_quiet_step (fail))
  exact wpQuiet_nil rfl
 refine eoq 15 (fun w3 F3=>?_)
 have E3:=F2.trans F3
 have A3:=A1.kept E3
 have h3:=Ob.up h1 E3
 have G3:=zm D1 E3 (by simp)
 clear F2 F3 A1 h1 D1 A0 h0 D0
 go_wp2_with fail
 refine (Ref.yt _ p q s _ _ _ A3).mono ?_;rintro e w4 ⟨rfl,A4,F4⟩
 have E4:=(E3.mono (T:=[p,q]) (by simp)).trans F4
 have h4:=h3.kept F4 (by simp;exact ⟨hp,hq⟩)
 have G4:=zm G3 F4 (by simp)
 clear A3 h3 F4 G3 E3
 go_wp2_with fail
 refine ql ⟨E4,?_⟩
 refine zr (by kernel_rfl) (fun w5 F5=>?_)
 have D5:=G4.then F5
 have h5:vn w5 b x:=h4.up F5
 have A5:=A4.kept F5
 clear A4 h4 F5 G4 E4
 obtain ⟨c0,c1,c2,c3,c4,c5,c6,c7,c8,c9,c10,c11,c12,c13⟩:=ze h5
 have z:=h5.frozen
 rw [show bits .or .i64 x.w 1=or1 x.w from rfl] at A5 ⊢
 have hn:y = { x with line:=10 }:=by rw [<- HY.out];unfold Ld.next;simp [hl]
 subst hn
 go_wp2_with fail
 go_end0
 exact ⟨rfl,(Ob.set h5 _),(Rar.set A5 hp hq _),(Fr.setCell' D5 _ (by simp))⟩
theorem J5 (x:Ld) (hl:x.line=8\/x.line=9\/x.line=10\/x.line=11) (hc:x.c.Ok) (b p q:Nat) (s:St) (w:World) (h:vn w b x) (hA:Rar w p q s) (hp:b≠p) (hq:b≠q) :
  Calls Tryz.prog 206 #[.pointer (some ⟨b,0,none⟩),.pointer (some ⟨p,0,none⟩)] w fun e w'=>e = .returned (.tuple #[])/\vn w' b (x.next (x.told s))/\Rar w' p q (x.act s)/\Fr [b,p,q] w w':=by
 rcases hl with l | l | l | l
 ·rw [show x.act s=s.swap (wrap64 (x.n+3)) 0 x.l by unfold Ld.act;simp [l]];exact q2y x l hc b p q s w h hA hp hq
 ·rw [show x.act s=s.load (wrap64 (x.n+3)) by unfold Ld.act;simp [l],show x.told s=qq s.l (wrap64 (x.n+3)) by unfold Ld.told;simp [l]];exact q2v x l hc b p q s w h hA hp hq
 ·rw [show x.act s=s.load (wrap64 (x.n+2)) by unfold Ld.act;simp [l],show x.told s=qq s.l (wrap64 (x.n+2)) by unfold Ld.told;simp [l]];exact q1a x l hc b p q s w h hA hp hq
 ·rw [show x.act s=s.swap (wrap64 (x.n+2)) x.w (or1 x.w) by unfold Ld.act;simp [l]];exact q0n x l hc b p q s w h hA hp hq
theorem q30 (x:Ld) (hl:x.line=8) (hc:x.c.Ok) (b p q:Nat) (s:St) (w:World) (h:vn w b x) (hA:Rar w p q s) (hp:b≠p) (hq:b≠q) :
  Calls Tryz.prog 181 #[.pointer (some ⟨b,0,none⟩),.pointer (some ⟨p,0,none⟩)] w fun e w'=>e = .returned (.bool (decide ((x.next (x.told s)).line=0)))/\vn w' b (x.next (x.told s))/\Rar w' p q (x.act s)/\Fr [b,p,q] w w':=by
 have HM:=q9 (J5 x (by omega) hc b p q s w h hA hp hq)
 obtain ⟨-,-,-,-,-,-,-,c7,-,-,-,-,-,-⟩:=ze h
 clear hA
 go_enter Tryz.func181,Tryz.ntmps181
 go_wp2_with fail
 refine HM.out.mono ?_;rintro e w7 ⟨rfl,h7,A7,D7⟩
 clear HM c7
 obtain ⟨-,-,-,-,-,-,-,c7,-,-,-,-,-,-⟩:=ze h7
 go_wp2_with fail
 go_ret
 exact ⟨rfl,h7,A7,D7⟩
theorem q3u (x:Ld) (hl:x.line=9) (hc:x.c.Ok) (b p q:Nat) (s:St) (w:World) (h:vn w b x) (hA:Rar w p q s) (hp:b≠p) (hq:b≠q) :
  Calls Tryz.prog 181 #[.pointer (some ⟨b,0,none⟩),.pointer (some ⟨p,0,none⟩)] w fun e w'=>e = .returned (.bool (decide ((x.next (x.told s)).line=0)))/\vn w' b (x.next (x.told s))/\Rar w' p q (x.act s)/\Fr [b,p,q] w w':=by
 have HM:=q9 (J5 x (by omega) hc b p q s w h hA hp hq)
 obtain ⟨-,-,-,-,-,-,-,c7,-,-,-,-,-,-⟩:=ze h
 clear hA
 go_enter Tryz.func181,Tryz.ntmps181
 go_wp2_with fail
 refine HM.out.mono ?_;rintro e w7 ⟨rfl,h7,A7,D7⟩
 clear HM c7
 obtain ⟨-,-,-,-,-,-,-,c7,-,-,-,-,-,-⟩:=ze h7
 go_wp2_with fail
 go_ret
 exact ⟨rfl,h7,A7,D7⟩
theorem q10 (x:Ld) (hl:x.line=10) (hc:x.c.Ok) (b p q:Nat) (s:St) (w:World) (h:vn w b x) (hA:Rar w p q s) (hp:b≠p) (hq:b≠q) :
  Calls Tryz.prog 181 #[.pointer (some ⟨b,0,none⟩),.pointer (some ⟨p,0,none⟩)] w fun e w'=>e = .returned (.bool (decide ((x.next (x.told s)).line=0)))/\vn w' b (x.next (x.told s))/\Rar w' p q (x.act s)/\Fr [b,p,q] w w':=by
 have HM:=q9 (J5 x (by omega) hc b p q s w h hA hp hq)
 obtain ⟨-,-,-,-,-,-,-,c7,-,-,-,-,-,-⟩:=ze h
 clear hA
 go_enter Tryz.func181,Tryz.ntmps181
 go_wp2_with fail
 refine HM.out.mono ?_;rintro e w7 ⟨rfl,h7,A7,D7⟩
 clear HM c7
 obtain ⟨-,-,-,-,-,-,-,c7,-,-,-,-,-,-⟩:=ze h7
 go_wp2_with fail
 go_ret
 exact ⟨rfl,h7,A7,D7⟩
theorem q0p (x:Ld) (hl:x.line=11) (hc:x.c.Ok) (b p q:Nat) (s:St) (w:World) (h:vn w b x) (hA:Rar w p q s) (hp:b≠p) (hq:b≠q) :
  Calls Tryz.prog 181 #[.pointer (some ⟨b,0,none⟩),.pointer (some ⟨p,0,none⟩)] w fun e w'=>e = .returned (.bool (decide ((x.next (x.told s)).line=0)))/\vn w' b (x.next (x.told s))/\Rar w' p q (x.act s)/\Fr [b,p,q] w w':=by
 have HM:=q9 (J5 x (by omega) hc b p q s w h hA hp hq)
 obtain ⟨-,-,-,-,-,-,-,c7,-,-,-,-,-,-⟩:=ze h
 clear hA
 go_enter Tryz.func181,Tryz.ntmps181
 go_wp2_with fail
 refine HM.out.mono ?_;rintro e w7 ⟨rfl,h7,A7,D7⟩
 clear HM c7
 obtain ⟨-,-,-,-,-,-,-,c7,-,-,-,-,-,-⟩:=ze h7
 go_wp2_with fail
 go_ret
 exact ⟨rfl,h7,A7,D7⟩
theorem q57 (x:Ld) (hl:x.line<1\/11<x.line) (b p:Nat) (w:World) (h:vn w b x) :
  Calls Tryz.prog 206 #[.pointer (some ⟨b,0,none⟩),.pointer (some ⟨p,0,none⟩)] w fun e w'=>e = .returned (.tuple #[])/\w=w':=by
 obtain ⟨-,-,-,-,-,-,-,c7,-,-,-,-,-,-⟩:=ze h
 have l8:x.line≠8:=by omega
 have l9:x.line≠9:=by omega
 have l10:x.line≠10:=by omega
 have l11:x.line≠11:=by omega
 go_enter Tryz.func206,Tryz.ntmps206
 go_wp2_with fail
 go_end0
 exact ⟨rfl,rfl⟩
theorem q2z (x:Ld) (hl:x.live=false) (hc:x.c.Ok) (b p q:Nat) (w:World) (h:vn w b x) :
  Calls Tryz.prog 181 #[.pointer (some ⟨b,0,none⟩),.pointer (some ⟨p,0,none⟩)] w fun e w'=>e = .returned (.bool (decide (x.line=0)))/\Fr [] w w':=by
 obtain ⟨c0,c1,c2,c3,c4,c5,c6,c7,c8,c9,c10,c11,c12,c13⟩:=ze h
 unfold Ld.live at hl
 have l1:x.line≠1:=by intro h;rw [h] at hl;simp at hl
 have l2:x.line≠2:=by intro h;rw [h] at hl;simp at hl
 have l3:x.line≠3:=by intro h;rw [h] at hl;simp at hl
 have l4:x.line≠4:=by intro h;rw [h] at hl;simp at hl
 have l5:x.line≠5:=by intro h;rw [h] at hl;simp at hl
 have l6:x.line≠6:=by intro h;rw [h] at hl;simp at hl
 have l7:x.line≠7:=by intro h;rw [h] at hl;simp at hl
 have l8:x.line≠8:=by intro h;rw [h] at hl;simp at hl
 have l9:x.line≠9:=by intro h;rw [h] at hl;simp at hl
 have l10:x.line≠10:=by intro h;rw [h] at hl;simp at hl
 have l11:x.line≠11:=by intro h;rw [h] at hl;simp at hl
 have hlt:x.line<1\/11<x.line:=by simp only [Bool.and_eq_false_iff,decide_eq_false_iff_not] at hl;omega
 clear hl
 go_enter Tryz.func181,Tryz.ntmps181
 go_wp2_with fail
 refine (q57 x (by omega) b p w h).mono ?_;rintro e _ ⟨rfl,rfl⟩
 go_wp2_with fail
 go_ret
 exact ⟨rfl,Fr.refl _ _⟩
theorem q6i (x:Ld) (hc:x.c.Ok) (b p q:Nat) (s:St) (w:World) (h:vn w b x) (hA:Rar w p q s) (hp:b≠p) (hq:b≠q) :
  Calls Tryz.prog 181 #[.pointer (some ⟨b,0,none⟩),.pointer (some ⟨p,0,none⟩)] w fun e w'=>e = .returned (.bool (decide ((x.step s).1.line=0)))/\vn w' b (x.step s).1/\Rar w' p q (x.step s).2/\Fr [b,p,q] w w':=by
 unfold Ld.step
 cases hl:x.live with
 | false=>exact (q2z x hl hc b p q w h).mono (by rintro e w' ⟨rfl,F⟩;exact ⟨rfl,Ob.up h F,hA.kept F,F.mono⟩)
 | true =>
  unfold Ld.live at hl
  have hl':x.line=1\/x.line=2\/x.line=3\/x.line=4\/x.line=5\/x.line=6\/x.line=7\/x.line=8\/x.line=9\/x.line=10\/x.line=11:=by
   simp only [Bool.and_eq_true,Bool.or_eq_true,decide_eq_true_eq] at hl;omega
  rw [qf rfl]
  rcases hl' with l | l | l | l | l | l | l | l | l | l | l
  ·rw [show x.act s=s.swap (wrap64 (x.chunk+3)) 0 x.chunk by unfold Ld.act;simp [l]];exact q2r x l hc b p q s w h hA hp hq
  ·rw [show x.act s=s.load (wrap64 (x.chunk+3)) by unfold Ld.act;simp [l],show x.told s=qq s.l (wrap64 (x.chunk+3)) by unfold Ld.told;simp [l]];exact q39 x l hc b p q s w h hA hp hq
  ·rw [show x.act s=s.load (wrap64 (x.l+2)) by unfold Ld.act;simp [l],show x.told s=qq s.l (wrap64 (x.l+2)) by unfold Ld.told;simp [l]];exact q4c x l hc b p q s w h hA hp hq
  ·rw [show x.act s=s.swap (wrap64 (x.l+2)) x.w (or1 x.w) by unfold Ld.act;simp [l]];exact q2h x l hc b p q s w h hA hp hq
  ·rw [show x.act s=s.load (wrap64 (x.l+4)) by unfold Ld.act;simp [l],show x.told s=qq s.l (wrap64 (x.l+4)) by unfold Ld.told;simp [l]];exact q4l x l hc b p q s w h hA hp hq
  ·rw [show x.act s=s.swap (wrap64 (x.l+4)) 0 x.who by unfold Ld.act;simp [l]];exact q3i x l hc b p q s w h hA hp hq
  ·rw [show x.act s=s.load (wrap64 (x.l+4)) by unfold Ld.act;simp [l],show x.told s=qq s.l (wrap64 (x.l+4)) by unfold Ld.told;simp [l]];exact q33 x l hc b p q s w h hA hp hq
  ·exact q30 x l hc b p q s w h hA hp hq
  ·exact q3u x l hc b p q s w h hA hp hq
  ·exact q10 x l hc b p q s w h hA hp hq
  ·exact q0p x l hc b p q s w h hA hp hq
structure Km where
 c:Cf
 t:Int
 seq:Int
 line:Int
 v:Int
 version:Int
 e:Int
def Km.cells (x:Km):Array Value:=#[.int .i64 x.c.t,.int .i64 x.c.c,.int .i64 x.c.wd,.int .i64 x.c.v,.int .i64 x.t,.int .i64 x.seq,.int .i64 x.line,.int .i64 x.v,.int .i64 x.version,.int .i64 x.e]
def Yr (w:World) (b:Nat) (x:Km):Prop:=Ob w b 219 x.cells
theorem yu {w:World} {b:Nat} {x:Km} (h:Yr w b x):w.cell? ⟨b,0,none⟩=some (.int .i64 x.c.t)/\w.cell? ⟨b,1,none⟩=some (.int .i64 x.c.c)/\w.cell? ⟨b,2,none⟩=some (.int .i64 x.c.wd)/\w.cell? ⟨b,3,none⟩=some (.int .i64 x.c.v)/\w.cell? ⟨b,4,none⟩=some (.int .i64 x.t)/\w.cell? ⟨b,5,none⟩=some (.int .i64 x.seq)/\w.cell? ⟨b,6,none⟩=some (.int .i64 x.line)/\w.cell? ⟨b,7,none⟩=some (.int .i64 x.v)/\w.cell? ⟨b,8,none⟩=some (.int .i64 x.version)/\w.cell? ⟨b,9,none⟩=some (.int .i64 x.e) :=
 ⟨h.cell rfl,h.cell rfl,h.cell rfl,h.cell rfl,h.cell rfl,h.cell rfl,h.cell rfl,h.cell rfl,h.cell rfl,h.cell rfl⟩
def Km.new (c:Cf) (t seq:Int):Km:=⟨c,t,seq,1,0,0,0⟩
def Km.pa (x:Km):Int:=q9x x.t
def Km.live (x:Km):Bool:=decide (1<=x.line) && decide (x.line<=5)
def Km.act (x:Km) (s:St):St :=
 if x.line=1 then s.load 1 else if x.line=2 then s.store x.pa (Q8 x.seq 1) else if x.line=3 then s.add 1 1 else if x.line=4 then s.swap x.pa (Q8 x.seq 1) (Q8 x.seq (wrap64 (x.v+2))) else s.load x.pa
def Km.told (x:Km) (s:St):Int:=if x.line=1\/x.line=3 then qq s.l 1 else qq s.l x.pa
def Km.next (x:Km) (v:Int):Km :=
 if x.line=1 then (if x.c.v<=v then { x with e:=15,line:=0 } else { x with line:=2 })
 else if x.line=2 then { x with line:=3 } else if x.line=3 then { x with v:=v,line:=4 } else if x.line=4 then { x with line:=5 } else { x with version:=ju v - 2,line:=0 }
def Km.step (x:Km) (s:St):Km×St:=if x.live=true then (x.next (x.told s),x.act s) else (x,s)
theorem Sb (c:Cf) (t seq:Int) (w:World):Calls Tryz.prog 161 #[c.val,.int .i64 t,.int .i64 seq] w fun e w'=>∃ b,e = .returned (.pointer (some ⟨b,0,none⟩))/\w.heap.size<=b/\Yr w' b (Km.new c t seq)/\Fr [] w w':=by
 unfold Cf.val
 have F0:=(Fr.refl [] w).alloc (.cells #[.int .i64 c.t,.int .i64 c.c,.int .i64 c.wd,.int .i64 c.v] 23)
 obtain ⟨c0,c1,c2,c3⟩:=Pl.yf (Go.heap_alloc_new w (.cells #[.int .i64 c.t,.int .i64 c.c,.int .i64 c.wd,.int .i64 c.v] 23))
 go_enter Tryz.func161,Tryz.ntmps161
 go_wp2
 go_ret
 exact ⟨_,rfl,by omega,Ob.newAt (Vg _ _) _ _,F0.alloc _⟩
theorem q09 (x:Km) (hl:x.line=1) (hc:x.c.Ok) (ht:0<=x.t/\x.t<=8) (b p q:Nat) (s:St) (w:World) (h:Yr w b x) (hA:Rar w p q s) (hp:b≠p) (hq:b≠q) :
  Calls Tryz.prog 168 #[.pointer (some ⟨b,0,none⟩),.pointer (some ⟨p,0,none⟩)] w fun e w'=>e = .returned (.bool (decide ((x.next (qq s.l 1)).line=0)))/\Yr w' b (x.next (qq s.l 1))/\Rar w' p q (s.load 1)/\Fr [b,p,q] w w':=by
 generalize hy:x.next (qq s.l 1)=y
 have HY:=q9 hy
 clear hy
 obtain ⟨c0,c1,c2,c3,c4,c5,c6,c7,c8,c9⟩:=yu h
 have z:=h.frozen
 go_enter Tryz.func168,Tryz.ntmps168
 go_wp2_with fail
 have h0:=h
 have A0:=hA
 have D0:=Fr.refl [b,p,q] w
 clear h hA
 have hw0:=q9 (Eq.refl w)
 refine (Ref.jw x.t ht.1 ht.2 _).mono ?_;rintro e _ ⟨rfl,rfl⟩
 rw [show (3:Int)+x.t=x.pa from rfl]
 go_wp2_with fail
 have A1:=(Rar.set A0 hp hq (i:=6) (.int .i64 2))
 have h1:Yr _ b { x with line:=2 }:=(Ob.set h0 (i:=6) (.int .i64 2))
 have D1:=(Fr.setCell' D0 (b:=b) (i:=6) (.int .i64 2) (by simp))
 clear c0 c1 c2 c3 c4 c5 c6 c7 c8 c9 z
 generalize (w.setCell ⟨b,6,none⟩ (.int .i64 2))=w1 at *
 refine qy (by kernel_rfl) [p,q] (fun w2 F2=>?_)
 refine epq [true,false,true,true,true,true,true,false] 2 (F2.mono) ?_
 apply qg
 refine ⟨fun wf Ff=>?_,?_⟩
 ·have hf:Yr wf b { x with line:=2 }:=Ob.kept h1 Ff (by simp;exact ⟨hp,hq⟩)
  obtain ⟨c0,c1,c2,c3,-,-,-,-,-,-⟩:=yu hf
  have k0:=qb c0
  have k1:=qb c1
  have k2:=qb c2
  have k3:=qb c3
  clear hf c0 c1 c2 c3
  simp only [sel]
  repeat (go_big_quiet_step (fail))
  exact wpQuiet_nil rfl
 refine eoq 1 (fun w3 F3=>?_)
 have E3:=F2.trans F3
 have A3:=A1.kept E3
 have h3:=Ob.up h1 E3
 have G3:=zm D1 E3 (by simp)
 clear F2 F3 A1 h1 D1 A0 h0 D0
 go_wp2_with fail
 refine (Ref.zi _ p q s 1 A3).mono ?_;rintro e w4 ⟨rfl,A4,F4⟩
 have E4:=(E3.mono (T:=[p,q]) (by simp)).trans F4
 have h4:=h3.kept F4 (by simp;exact ⟨hp,hq⟩)
 have G4:=zm G3 F4 (by simp)
 clear A3 h3 F4 G3 E3
 go_wp2_with fail
 refine ql ⟨E4,?_⟩
 refine eoq 7 (fun wx Fx=>?_)
 replace E4:=E4.then Fx
 replace h4:=h4.up Fx
 replace A4:=A4.kept Fx
 replace G4:=G4.then Fx
 clear Fx
 go_wp2_with fail
 refine ql ⟨E4,?_⟩
 refine zr (by kernel_rfl) (fun w5 F5=>?_)
 have D5:=G4.then F5
 have h5:Yr w5 b { x with line:=2 }:=h4.up F5
 have A5:=A4.kept F5
 clear A4 h4 F5 G4 E4
 obtain ⟨c0,c1,c2,c3,c4,c5,c6,c7,c8,c9⟩:=yu h5
 have z:=h5.frozen
 generalize hv:qq s.l 1=v at *
 by_cases hv0:x.c.v<=v
 ·have hn:y = { x with e:=15,line:=0 }:=by rw [<- HY.out];unfold Km.next;simp [hl,hv0]
  subst hn
  have g:decide (v≥x.c.v)=true:=by simpa using hv0
  go_wp2_with fail
  go_ret
  exact ⟨rfl,(Ob.set (Ob.set h5 _) (i:=6) (.int .i64 0)),(Rar.set (Rar.set A5 hp hq _) hp hq (i:=6) (.int .i64 0)),(Fr.setCell' (Fr.setCell' D5 _ (by simp)) (b:=b) (i:=6) (.int .i64 0) (by simp))⟩
 ·have hn:y = { x with line:=2 }:=by rw [<- HY.out];unfold Km.next;simp [hl,hv0]
  subst hn
  have g:decide (v≥x.c.v)=false:=by simpa using hv0
  go_wp2_with fail
  go_ret
  exact ⟨rfl,h5,A5,D5⟩
theorem q18 (x:Km) (hl:x.line=2) (hc:x.c.Ok) (ht:0<=x.t/\x.t<=8) (b p q:Nat) (s:St) (w:World) (h:Yr w b x) (hA:Rar w p q s) (hp:b≠p) (hq:b≠q) :
  Calls Tryz.prog 168 #[.pointer (some ⟨b,0,none⟩),.pointer (some ⟨p,0,none⟩)] w fun e w'=>e = .returned (.bool (decide ((x.next (x.told s)).line=0)))/\Yr w' b (x.next (x.told s))/\Rar w' p q (s.store x.pa (Q8 x.seq 1))/\Fr [b,p,q] w w':=by
 generalize hy:x.next (x.told s)=y
 have HY:=q9 hy
 clear hy
 obtain ⟨c0,c1,c2,c3,c4,c5,c6,c7,c8,c9⟩:=yu h
 have z:=h.frozen
 go_enter Tryz.func168,Tryz.ntmps168
 go_wp2_with fail
 have h0:=h
 have A0:=hA
 have D0:=Fr.refl [b,p,q] w
 clear h hA
 have hw0:=q9 (Eq.refl w)
 refine (Ref.jw x.t ht.1 ht.2 _).mono ?_;rintro e _ ⟨rfl,rfl⟩
 rw [show (3:Int)+x.t=x.pa from rfl]
 go_wp2_with fail
 refine (Vm _ _ _).mono ?_;rintro e _ ⟨rfl,rfl⟩
 go_wp2_with fail
 have A1:=A0
 have h1:=h0
 have D1:=D0
 clear c0 c1 c2 c3 c4 c5 c6 c7 c8 c9 z
 refine (Ref.jl _ p q s _ _ A1).mono ?_;rintro e w5 ⟨rfl,A5,F5⟩
 have h5:=Ob.kept h1 F5 (by simp;exact ⟨hp,hq⟩)
 have D5:=zm D1 F5 (by simp)
 clear A1 h1 D1 F5 A0 h0 D0
 obtain ⟨c0,c1,c2,c3,c4,c5,c6,c7,c8,c9⟩:=yu h5
 have z:=h5.frozen
 have hn:y = { x with line:=3 }:=by rw [<- HY.out];unfold Km.next;simp [hl]
 subst hn
 go_wp2_with fail
 go_ret
 exact ⟨rfl,(Ob.set h5 _),(Rar.set A5 hp hq _),(Fr.setCell' D5 _ (by simp))⟩
theorem q0t (x:Km) (hl:x.line=3) (hc:x.c.Ok) (ht:0<=x.t/\x.t<=8) (b p q:Nat) (s:St) (w:World) (h:Yr w b x) (hA:Rar w p q s) (hp:b≠p) (hq:b≠q) :
  Calls Tryz.prog 168 #[.pointer (some ⟨b,0,none⟩),.pointer (some ⟨p,0,none⟩)] w fun e w'=>e = .returned (.bool (decide ((x.next (qq s.l 1)).line=0)))/\Yr w' b (x.next (qq s.l 1))/\Rar w' p q (s.add 1 1)/\Fr [b,p,q] w w':=by
 generalize hy:x.next (qq s.l 1)=y
 have HY:=q9 hy
 clear hy
 obtain ⟨c0,c1,c2,c3,c4,c5,c6,c7,c8,c9⟩:=yu h
 have z:=h.frozen
 go_enter Tryz.func168,Tryz.ntmps168
 go_wp2_with fail
 have h0:=h
 have A0:=hA
 have D0:=Fr.refl [b,p,q] w
 clear h hA
 have hw0:=q9 (Eq.refl w)
 refine (Ref.jw x.t ht.1 ht.2 _).mono ?_;rintro e _ ⟨rfl,rfl⟩
 rw [show (3:Int)+x.t=x.pa from rfl]
 go_wp2_with fail
 have A1:=A0
 have h1:=h0
 have D1:=D0
 clear c0 c1 c2 c3 c4 c5 c6 c7 c8 c9 z
 refine (Ref.Un _ p q s 1 1 A1).mono ?_;rintro e w5 ⟨rfl,A5,F5⟩
 have h5:=Ob.kept h1 F5 (by simp;exact ⟨hp,hq⟩)
 have D5:=zm D1 F5 (by simp)
 clear A1 h1 D1 F5 A0 h0 D0
 obtain ⟨c0,c1,c2,c3,c4,c5,c6,c7,c8,c9⟩:=yu h5
 have z:=h5.frozen
 have hn:y = { x with v:=qq s.l 1,line:=4 }:=by rw [<- HY.out];unfold Km.next;simp [hl]
 subst hn
 go_wp2_with fail
 go_ret
 exact ⟨rfl,(Ob.set (Ob.set h5 _) (i:=6) (.int .i64 4)),(Rar.set (Rar.set A5 hp hq _) hp hq (i:=6) (.int .i64 4)),(Fr.setCell' (Fr.setCell' D5 _ (by simp)) (b:=b) (i:=6) (.int .i64 4) (by simp))⟩
theorem q0j (x:Km) (hl:x.line=4) (hc:x.c.Ok) (ht:0<=x.t/\x.t<=8) (b p q:Nat) (s:St) (w:World) (h:Yr w b x) (hA:Rar w p q s) (hp:b≠p) (hq:b≠q) :
  Calls Tryz.prog 168 #[.pointer (some ⟨b,0,none⟩),.pointer (some ⟨p,0,none⟩)] w fun e w'=>e = .returned (.bool (decide ((x.next (x.told s)).line=0)))/\Yr w' b (x.next (x.told s))/\Rar w' p q (s.swap x.pa (Q8 x.seq 1) (Q8 x.seq (wrap64 (x.v+2))))/\Fr [b,p,q] w w':=by
 generalize hy:x.next (x.told s)=y
 have HY:=q9 hy
 clear hy
 obtain ⟨c0,c1,c2,c3,c4,c5,c6,c7,c8,c9⟩:=yu h
 have z:=h.frozen
 go_enter Tryz.func168,Tryz.ntmps168
 go_wp2_with fail
 have h0:=h
 have A0:=hA
 have D0:=Fr.refl [b,p,q] w
 clear h hA
 have hw0:=q9 (Eq.refl w)
 refine (Ref.jw x.t ht.1 ht.2 _).mono ?_;rintro e _ ⟨rfl,rfl⟩
 rw [show (3:Int)+x.t=x.pa from rfl]
 go_wp2_with fail
 have A1:=A0
 have h1:=h0
 have D1:=D0
 clear c0 c1 c2 c3 c4 c5 c6 c7 c8 c9 z
 refine qy (by kernel_rfl) [p,q] (fun w2 F2=>?_)
 refine epq [true,true,true,true,true,true,true,true,true,true,true,true,true,true,true,true,true,false] 1 (F2.mono) ?_
 apply qg
 refine ⟨fun wf Ff=>?_,?_⟩
 ·have hf:Yr wf b x:=Ob.kept h1 Ff (by simp;exact ⟨hp,hq⟩)
  obtain ⟨-,-,-,-,-,c5,-,c7,-,-⟩:=yu hf
  have k5:=qb c5
  have k7:=qb c7
  clear hf c5 c7
  simp only [sel]
  repeat (go_big_quiet_step ((first | (go_at_call 173;exact Calls.in_same (Vm _ _ _)))))
  exact wpQuiet_nil rfl
 refine eoq 17 (fun w3 F3=>?_)
 have E3:=F2.trans F3
 have A3:=A1.kept E3
 have h3:=Ob.up h1 E3
 have G3:=zm D1 E3 (by simp)
 clear F2 F3 A1 h1 D1 A0 h0 D0
 go_wp2_with fail
 refine (Ref.yt _ p q s _ _ _ A3).mono ?_;rintro e w4 ⟨rfl,A4,F4⟩
 have E4:=(E3.mono (T:=[p,q]) (by simp)).trans F4
 have h4:=h3.kept F4 (by simp;exact ⟨hp,hq⟩)
 have G4:=zm G3 F4 (by simp)
 clear A3 h3 F4 G3 E3
 go_wp2_with fail
 refine ql ⟨E4,?_⟩
 refine zr (by kernel_rfl) (fun w5 F5=>?_)
 have D5:=G4.then F5
 have h5:Yr w5 b x:=h4.up F5
 have A5:=A4.kept F5
 clear A4 h4 F5 G4 E4
 obtain ⟨c0,c1,c2,c3,c4,c5,c6,c7,c8,c9⟩:=yu h5
 have z:=h5.frozen
 have hn:y = { x with line:=5 }:=by rw [<- HY.out];unfold Km.next;simp [hl]
 subst hn
 go_wp2_with fail
 go_ret
 exact ⟨rfl,(Ob.set h5 _),(Rar.set A5 hp hq _),(Fr.setCell' D5 _ (by simp))⟩
theorem q0x (x:Km) (hl:x.line=5) (hc:x.c.Ok) (ht:0<=x.t/\x.t<=8) (b p q:Nat) (s:St) (w:World) (h:Yr w b x) (hA:Rar w p q s) (hp:b≠p) (hq:b≠q) :
  Calls Tryz.prog 168 #[.pointer (some ⟨b,0,none⟩),.pointer (some ⟨p,0,none⟩)] w fun e w'=>e = .returned (.bool (decide ((x.next (qq s.l x.pa)).line=0)))/\Yr w' b (x.next (qq s.l x.pa))/\Rar w' p q (s.load x.pa)/\Fr [b,p,q] w w':=by
 generalize hy:x.next (qq s.l x.pa)=y
 have HY:=q9 hy
 clear hy
 obtain ⟨c0,c1,c2,c3,c4,c5,c6,c7,c8,c9⟩:=yu h
 have z:=h.frozen
 go_enter Tryz.func168,Tryz.ntmps168
 go_wp2_with fail
 have h0:=h
 have A0:=hA
 have D0:=Fr.refl [b,p,q] w
 clear h hA
 have hw0:=q9 (Eq.refl w)
 refine (Ref.jw x.t ht.1 ht.2 _).mono ?_;rintro e _ ⟨rfl,rfl⟩
 rw [show (3:Int)+x.t=x.pa from rfl]
 go_wp2_with fail
 have A1:=A0
 have h1:=h0
 have D1:=D0
 clear c0 c1 c2 c3 c4 c5 c6 c7 c8 c9 z
 refine (Ref.zi _ p q s _ A1).mono ?_;rintro e w5 ⟨rfl,A5,F5⟩
 have h5:=Ob.kept h1 F5 (by simp;exact ⟨hp,hq⟩)
 have D5:=zm D1 F5 (by simp)
 clear A1 h1 D1 F5 A0 h0 D0
 obtain ⟨c0,c1,c2,c3,c4,c5,c6,c7,c8,c9⟩:=yu h5
 have z:=h5.frozen
 go_wp2_with fail
 refine (Y2 _ _).mono ?_;rintro e _ ⟨rfl,rfl⟩
 have hpb:wrap64 (ju (qq s.l x.pa) - 2)=ju (qq s.l x.pa) - 2:=by unfold ju;exact w64 (by omega) (by omega)
 have hn:y = { x with version:=ju (qq s.l x.pa) - 2,line:=0 }:=by rw [<- HY.out];unfold Km.next;simp [hl]
 subst hn
 go_wp2_with fail
 go_ret
 exact ⟨rfl,(Ob.set (Ob.set h5 _) (i:=6) (.int .i64 0)),(Rar.set (Rar.set A5 hp hq _) hp hq (i:=6) (.int .i64 0)),(Fr.setCell' (Fr.setCell' D5 _ (by simp)) (b:=b) (i:=6) (.int .i64 0) (by simp))⟩
theorem q0l (x:Km) (hl:x.live=false) (hc:x.c.Ok) (ht:0<=x.t/\x.t<=8) (b p q:Nat) (w:World) (h:Yr w b x) :
  Calls Tryz.prog 168 #[.pointer (some ⟨b,0,none⟩),.pointer (some ⟨p,0,none⟩)] w fun e w'=>e = .returned (.bool (decide (x.line=0)))/\Fr [] w w':=by
 obtain ⟨c0,c1,c2,c3,c4,c5,c6,c7,c8,c9⟩:=yu h
 unfold Km.live at hl
 have l1:x.line≠1:=by intro h;rw [h] at hl;simp at hl
 have l2:x.line≠2:=by intro h;rw [h] at hl;simp at hl
 have l3:x.line≠3:=by intro h;rw [h] at hl;simp at hl
 have l4:x.line≠4:=by intro h;rw [h] at hl;simp at hl
 have l5:x.line≠5:=by intro h;rw [h] at hl;simp at hl
 clear hl
 go_enter Tryz.func168,Tryz.ntmps168
 go_wp2_with fail
 refine (Ref.jw x.t ht.1 ht.2 _).mono ?_;rintro e _ ⟨rfl,rfl⟩
 rw [show (3:Int)+x.t=x.pa from rfl]
 go_wp2_with fail
 go_ret
 exact ⟨rfl,Fr.refl _ _⟩
theorem Kq (x:Km) (hc:x.c.Ok) (ht:0<=x.t/\x.t<=8) (b p q:Nat) (s:St) (w:World) (h:Yr w b x) (hA:Rar w p q s) (hp:b≠p) (hq:b≠q) :
  Calls Tryz.prog 168 #[.pointer (some ⟨b,0,none⟩),.pointer (some ⟨p,0,none⟩)] w fun e w'=>e = .returned (.bool (decide ((x.step s).1.line=0)))/\Yr w' b (x.step s).1/\Rar w' p q (x.step s).2/\Fr [b,p,q] w w':=by
 unfold Km.step
 cases hl:x.live with
 | false=>exact (q0l x hl hc ht b p q w h).mono (by rintro e w' ⟨rfl,F⟩;exact ⟨rfl,Ob.up h F,hA.kept F,F.mono⟩)
 | true =>
  unfold Km.live at hl
  have hl':x.line=1\/x.line=2\/x.line=3\/x.line=4\/x.line=5:=by
   simp only [Bool.and_eq_true,Bool.or_eq_true,decide_eq_true_eq] at hl;omega
  rw [qf rfl]
  rcases hl' with l | l | l | l | l
  ·rw [show x.act s=s.load 1 by unfold Km.act;simp [l],show x.told s=qq s.l 1 by unfold Km.told;simp [l]];exact q09 x l hc ht b p q s w h hA hp hq
  ·rw [show x.act s=s.store x.pa (Q8 x.seq 1) by unfold Km.act;simp [l]];exact q18 x l hc ht b p q s w h hA hp hq
  ·rw [show x.act s=s.add 1 1 by unfold Km.act;simp [l],show x.told s=qq s.l 1 by unfold Km.told;simp [l]];exact q0t x l hc ht b p q s w h hA hp hq
  ·rw [show x.act s=s.swap x.pa (Q8 x.seq 1) (Q8 x.seq (wrap64 (x.v+2))) by unfold Km.act;simp [l]];exact q0j x l hc ht b p q s w h hA hp hq
  ·rw [show x.act s=s.load x.pa by unfold Km.act;simp [l],show x.told s=qq s.l x.pa by unfold Km.told;simp [l]];exact q0x x l hc ht b p q s w h hA hp hq
structure Cl where
 c:Cf
 chunk:Int
 key:Int
 data:Int
 line:Int
 i:Int
 g:Int
 version:Int
def Cl.cells (x:Cl):Array Value:=#[.int .i64 x.c.t,.int .i64 x.c.c,.int .i64 x.c.wd,.int .i64 x.c.v,.int .i64 x.chunk,.int .i64 x.key,.int .i64 x.data,.int .i64 x.line,.int .i64 x.i,.int .i64 x.g,.int .i64 x.version]
def Zu (w:World) (b:Nat) (x:Cl):Prop:=Ob w b 213 x.cells
theorem zu {w:World} {b:Nat} {x:Cl} (h:Zu w b x):w.cell? ⟨b,0,none⟩=some (.int .i64 x.c.t)/\w.cell? ⟨b,1,none⟩=some (.int .i64 x.c.c)/\w.cell? ⟨b,2,none⟩=some (.int .i64 x.c.wd)/\w.cell? ⟨b,3,none⟩=some (.int .i64 x.c.v)/\w.cell? ⟨b,4,none⟩=some (.int .i64 x.chunk)/\w.cell? ⟨b,5,none⟩=some (.int .i64 x.key)/\w.cell? ⟨b,6,none⟩=some (.int .i64 x.data)/\w.cell? ⟨b,7,none⟩=some (.int .i64 x.line)/\w.cell? ⟨b,8,none⟩=some (.int .i64 x.i)/\w.cell? ⟨b,9,none⟩=some (.int .i64 x.g)/\w.cell? ⟨b,10,none⟩=some (.int .i64 x.version) :=
 ⟨h.cell rfl,h.cell rfl,h.cell rfl,h.cell rfl,h.cell rfl,h.cell rfl,h.cell rfl,h.cell rfl,h.cell rfl,h.cell rfl,h.cell rfl⟩
def Cl.new (c:Cf) (chunk key data:Int):Cl:=⟨c,chunk,key,data,1,-1,0,-1⟩
def Cl.sa (x:Cl):Int:=Qg x.chunk x.i
def Cl.live (x:Cl):Bool:=decide (1<=x.line) && decide (x.line<=8)
def Cl.act (x:Cl) (s:St):St :=
 if x.line=1 then s.load (wrap64 (x.chunk+6)) else if x.line=2 then s.add (wrap64 (x.chunk+1)) 1 else if x.line=3 then s.store (wrap64 (x.sa+1)) x.key
 else if x.line=4 then s.store (wrap64 (x.sa+2)) x.data else if x.line=5 then s.swap x.sa 0 1 else if x.line=6 then s.load 1 else if x.line=7 then s.swap x.sa 1 (vq x.g) else s.load x.sa
def Cl.told (x:Cl) (s:St):Int :=
 if x.line=1 then qq s.l (wrap64 (x.chunk+6)) else if x.line=2 then qq s.l (wrap64 (x.chunk+1)) else if x.line=5 then (if s.can x.sa 0 then 1 else 0) else if x.line=6 then qq s.l 1 else qq s.l x.sa
def Cl.next (x:Cl) (v:Int):Cl :=
 if x.line=1 then (if v=0 then { x with line:=2 } else { x with line:=0 })
 else if x.line=2 then (if 0<=v/\v<x.c.c then { x with line:=3,i:=v } else { x with line:=0 })
 else if x.line=3 then { x with line:=4 } else if x.line=4 then { x with line:=5 }
 else if x.line=5 then (if v=1 then { x with line:=6 } else { x with line:=0 })
 else if x.line=6 then { x with g:=v,line:=7 } else if x.line=7 then { x with line:=8 } else { x with version:=Va v,line:=0 }
def Cl.step (x:Cl) (s:St):Cl×St:=if x.live=true then (x.next (x.told s),x.act s) else (x,s)
theorem Rl (c:Cf) (chunk key data:Int) (w:World):Calls Tryz.prog 166 #[c.val,.int .i64 chunk,.int .i64 key,.int .i64 data] w fun e w'=>∃ b,e = .returned (.pointer (some ⟨b,0,none⟩))/\w.heap.size<=b/\Zu w' b (Cl.new c chunk key data)/\Fr [] w w':=by
 unfold Cf.val
 have F0:=(Fr.refl [] w).alloc (.cells #[.int .i64 c.t,.int .i64 c.c,.int .i64 c.wd,.int .i64 c.v] 23)
 obtain ⟨c0,c1,c2,c3⟩:=Pl.yf (Go.heap_alloc_new w (.cells #[.int .i64 c.t,.int .i64 c.c,.int .i64 c.wd,.int .i64 c.v] 23))
 go_enter Tryz.func166,Tryz.ntmps166
 go_wp2
 go_ret
 exact ⟨_,rfl,by omega,Ob.newAt (Vg _ _) _ _,F0.alloc _⟩
theorem q4a (x:Cl) (hl:x.line=1) (hc:x.c.Ok) (b p q:Nat) (s:St) (w:World) (h:Zu w b x) (hA:Rar w p q s) (hp:b≠p) (hq:b≠q) :
  Calls Tryz.prog 163 #[.pointer (some ⟨b,0,none⟩),.pointer (some ⟨p,0,none⟩)] w fun e w'=>e = .returned (.bool (decide ((x.next (qq s.l (wrap64 (x.chunk+6)))).line=0)))/\Zu w' b (x.next (qq s.l (wrap64 (x.chunk+6))))/\Rar w' p q (s.load (wrap64 (x.chunk+6)))/\Fr [b,p,q] w w':=by
 generalize hy:x.next (qq s.l (wrap64 (x.chunk+6)))=y
 have HY:=q9 hy
 clear hy
 obtain ⟨c0,c1,c2,c3,c4,c5,c6,c7,c8,c9,c10⟩:=zu h
 have z:=h.frozen
 go_enter Tryz.func163,Tryz.ntmps163
 go_wp2_with fail
 have k4:=qb c4
 have k8:=qb c8
 clear c0 c1 c2 c3 c4 c5 c6 c7 c8 c9 c10 z
 refine wiq ?_
 repeat (go_big_quiet_step ((go_at_call 54;exact Calls.in_same (xy _ _ _))))
 refine wpQuiet_nil ?_
 intro w0 F0
 rw [show Qg x.chunk x.i=x.sa from rfl]
 have h0:Zu w0 b x:=Ob.up h F0
 have A0:=hA.kept F0
 have D0:Fr [b,p,q] w w0:=F0.mono
 clear k4 k8 h hA F0
 obtain ⟨c0,c1,c2,c3,c4,c5,c6,c7,c8,c9,c10⟩:=zu h0
 have z:=h0.frozen
 go_wp2_with fail
 have A1:=(Rar.set A0 hp hq (i:=7) (.int .i64 2))
 have h1:Zu _ b { x with line:=2 }:=(Ob.set h0 (i:=7) (.int .i64 2))
 have D1:=(Fr.setCell' D0 (b:=b) (i:=7) (.int .i64 2) (by simp))
 clear c0 c1 c2 c3 c4 c5 c6 c7 c8 c9 c10 z
 generalize (w0.setCell ⟨b,7,none⟩ (.int .i64 2))=w1 at *
 refine (Ref.zi _ p q s _ A1).mono ?_;rintro e w5 ⟨rfl,A5,F5⟩
 have h5:=Ob.kept h1 F5 (by simp;exact ⟨hp,hq⟩)
 have D5:=zm D1 F5 (by simp)
 clear A1 h1 D1 F5 A0 h0 D0
 obtain ⟨c0,c1,c2,c3,c4,c5,c6,c7,c8,c9,c10⟩:=zu h5
 have z:=h5.frozen
 generalize hv:qq s.l (wrap64 (x.chunk+6))=v at *
 by_cases hv0:v=0
 ·have hn:y = { x with line:=2 }:=by rw [<- HY.out];unfold Cl.next;simp [hl,hv0]
  subst hn
  go_wp2_with fail
  go_ret
  exact ⟨rfl,h5,A5,D5⟩
 ·have hn:y = { x with line:=0 }:=by rw [<- HY.out];unfold Cl.next;simp [hl,hv0]
  subst hn
  go_wp2_with fail
  go_ret
  exact ⟨rfl,(Ob.set h5 _),(Rar.set A5 hp hq _),(Fr.setCell' D5 _ (by simp))⟩
theorem q2f (x:Cl) (hl:x.line=2) (hc:x.c.Ok) (b p q:Nat) (s:St) (w:World) (h:Zu w b x) (hA:Rar w p q s) (hp:b≠p) (hq:b≠q) :
  Calls Tryz.prog 163 #[.pointer (some ⟨b,0,none⟩),.pointer (some ⟨p,0,none⟩)] w fun e w'=>e = .returned (.bool (decide ((x.next (qq s.l (wrap64 (x.chunk+1)))).line=0)))/\Zu w' b (x.next (qq s.l (wrap64 (x.chunk+1))))/\Rar w' p q (s.add (wrap64 (x.chunk+1)) 1)/\Fr [b,p,q] w w':=by
 generalize hy:x.next (qq s.l (wrap64 (x.chunk+1)))=y
 have HY:=q9 hy
 clear hy
 obtain ⟨c0,c1,c2,c3,c4,c5,c6,c7,c8,c9,c10⟩:=zu h
 have z:=h.frozen
 go_enter Tryz.func163,Tryz.ntmps163
 go_wp2_with fail
 have k4:=qb c4
 have k8:=qb c8
 clear c0 c1 c2 c3 c4 c5 c6 c7 c8 c9 c10 z
 refine wiq ?_
 repeat (go_big_quiet_step ((go_at_call 54;exact Calls.in_same (xy _ _ _))))
 refine wpQuiet_nil ?_
 intro w0 F0
 rw [show Qg x.chunk x.i=x.sa from rfl]
 have h0:Zu w0 b x:=Ob.up h F0
 have A0:=hA.kept F0
 have D0:Fr [b,p,q] w w0:=F0.mono
 clear k4 k8 h hA F0
 obtain ⟨c0,c1,c2,c3,c4,c5,c6,c7,c8,c9,c10⟩:=zu h0
 have z:=h0.frozen
 go_wp2_with fail
 have A1:=(Rar.set A0 hp hq (i:=7) (.int .i64 3))
 have h1:Zu _ b { x with line:=3 }:=(Ob.set h0 (i:=7) (.int .i64 3))
 have D1:=(Fr.setCell' D0 (b:=b) (i:=7) (.int .i64 3) (by simp))
 clear c0 c1 c2 c3 c4 c5 c6 c7 c8 c9 c10 z
 generalize (w0.setCell ⟨b,7,none⟩ (.int .i64 3))=w1 at *
 refine (Ref.Un _ p q s _ 1 A1).mono ?_;rintro e w5 ⟨rfl,A5,F5⟩
 have h5:=Ob.kept h1 F5 (by simp;exact ⟨hp,hq⟩)
 have D5:=zm D1 F5 (by simp)
 clear A1 h1 D1 F5 A0 h0 D0
 obtain ⟨c0,c1,c2,c3,c4,c5,c6,c7,c8,c9,c10⟩:=zu h5
 have z:=h5.frozen
 generalize hv:qq s.l (wrap64 (x.chunk+1))=v at *
 by_cases hv0:v<0
 ·have hn:y = { x with line:=0 }:=by rw [<- HY.out];unfold Cl.next;simp [hl,hv0];try omega
  subst hn
  go_wp2_with fail
  go_ret
  exact ⟨rfl,(Ob.set h5 _),(Rar.set A5 hp hq _),(Fr.setCell' D5 _ (by simp))⟩
 have hv2:0<=v:=by omega
 by_cases hv1:x.c.c<=v
 ·have hn:y = { x with line:=0 }:=by rw [<- HY.out];unfold Cl.next;simp [hl,hv0];try omega
  subst hn
  go_wp2_with fail
  go_ret
  exact ⟨rfl,(Ob.set h5 _),(Rar.set A5 hp hq _),(Fr.setCell' D5 _ (by simp))⟩
 have hv3:v<x.c.c:=by omega
 have hn:y = { x with line:=3,i:=v }:=by rw [<- HY.out];unfold Cl.next;simp [hl,hv2,hv3]
 subst hn
 go_wp2_with fail
 go_ret
 exact ⟨rfl,(Ob.set h5 _),(Rar.set A5 hp hq _),(Fr.setCell' D5 _ (by simp))⟩
theorem q37 (x:Cl) (hl:x.line=3) (hc:x.c.Ok) (b p q:Nat) (s:St) (w:World) (h:Zu w b x) (hA:Rar w p q s) (hp:b≠p) (hq:b≠q) :
  Calls Tryz.prog 163 #[.pointer (some ⟨b,0,none⟩),.pointer (some ⟨p,0,none⟩)] w fun e w'=>e = .returned (.bool (decide ((x.next (x.told s)).line=0)))/\Zu w' b (x.next (x.told s))/\Rar w' p q (s.store (wrap64 (x.sa+1)) x.key)/\Fr [b,p,q] w w':=by
 generalize hy:x.next (x.told s)=y
 have HY:=q9 hy
 clear hy
 obtain ⟨c0,c1,c2,c3,c4,c5,c6,c7,c8,c9,c10⟩:=zu h
 have z:=h.frozen
 go_enter Tryz.func163,Tryz.ntmps163
 go_wp2_with fail
 have k4:=qb c4
 have k8:=qb c8
 clear c0 c1 c2 c3 c4 c5 c6 c7 c8 c9 c10 z
 refine wiq ?_
 repeat (go_big_quiet_step ((go_at_call 54;exact Calls.in_same (xy _ _ _))))
 refine wpQuiet_nil ?_
 intro w0 F0
 rw [show Qg x.chunk x.i=x.sa from rfl]
 have h0:Zu w0 b x:=Ob.up h F0
 have A0:=hA.kept F0
 have D0:Fr [b,p,q] w w0:=F0.mono
 clear k4 k8 h hA F0
 obtain ⟨c0,c1,c2,c3,c4,c5,c6,c7,c8,c9,c10⟩:=zu h0
 have z:=h0.frozen
 go_wp2_with fail
 have A1:=A0
 have h1:=h0
 have D1:=D0
 clear c0 c1 c2 c3 c4 c5 c6 c7 c8 c9 c10 z
 refine (Ref.jl _ p q s _ _ A1).mono ?_;rintro e w5 ⟨rfl,A5,F5⟩
 have h5:=Ob.kept h1 F5 (by simp;exact ⟨hp,hq⟩)
 have D5:=zm D1 F5 (by simp)
 clear A1 h1 D1 F5 A0 h0 D0
 obtain ⟨c0,c1,c2,c3,c4,c5,c6,c7,c8,c9,c10⟩:=zu h5
 have z:=h5.frozen
 have hn:y = { x with line:=4 }:=by rw [<- HY.out];unfold Cl.next;simp [hl]
 subst hn
 go_wp2_with fail
 go_ret
 exact ⟨rfl,(Ob.set h5 _),(Rar.set A5 hp hq _),(Fr.setCell' D5 _ (by simp))⟩
theorem q2m (x:Cl) (hl:x.line=4) (hc:x.c.Ok) (b p q:Nat) (s:St) (w:World) (h:Zu w b x) (hA:Rar w p q s) (hp:b≠p) (hq:b≠q) :
  Calls Tryz.prog 163 #[.pointer (some ⟨b,0,none⟩),.pointer (some ⟨p,0,none⟩)] w fun e w'=>e = .returned (.bool (decide ((x.next (x.told s)).line=0)))/\Zu w' b (x.next (x.told s))/\Rar w' p q (s.store (wrap64 (x.sa+2)) x.data)/\Fr [b,p,q] w w':=by
 generalize hy:x.next (x.told s)=y
 have HY:=q9 hy
 clear hy
 obtain ⟨c0,c1,c2,c3,c4,c5,c6,c7,c8,c9,c10⟩:=zu h
 have z:=h.frozen
 go_enter Tryz.func163,Tryz.ntmps163
 go_wp2_with fail
 have k4:=qb c4
 have k8:=qb c8
 clear c0 c1 c2 c3 c4 c5 c6 c7 c8 c9 c10 z
 refine wiq ?_
 repeat (go_big_quiet_step ((go_at_call 54;exact Calls.in_same (xy _ _ _))))
 refine wpQuiet_nil ?_
 intro w0 F0
 rw [show Qg x.chunk x.i=x.sa from rfl]
 have h0:Zu w0 b x:=Ob.up h F0
 have A0:=hA.kept F0
 have D0:Fr [b,p,q] w w0:=F0.mono
 clear k4 k8 h hA F0
 obtain ⟨c0,c1,c2,c3,c4,c5,c6,c7,c8,c9,c10⟩:=zu h0
 have z:=h0.frozen
 go_wp2_with fail
 have A1:=A0
 have h1:=h0
 have D1:=D0
 clear c0 c1 c2 c3 c4 c5 c6 c7 c8 c9 c10 z
 refine (Ref.jl _ p q s _ _ A1).mono ?_;rintro e w5 ⟨rfl,A5,F5⟩
 have h5:=Ob.kept h1 F5 (by simp;exact ⟨hp,hq⟩)
 have D5:=zm D1 F5 (by simp)
 clear A1 h1 D1 F5 A0 h0 D0
 obtain ⟨c0,c1,c2,c3,c4,c5,c6,c7,c8,c9,c10⟩:=zu h5
 have z:=h5.frozen
 have hn:y = { x with line:=5 }:=by rw [<- HY.out];unfold Cl.next;simp [hl]
 subst hn
 go_wp2_with fail
 go_ret
 exact ⟨rfl,(Ob.set h5 _),(Rar.set A5 hp hq _),(Fr.setCell' D5 _ (by simp))⟩
theorem q2j (x:Cl) (hl:x.line=5) (hc:x.c.Ok) (b p q:Nat) (s:St) (w:World) (h:Zu w b x) (hA:Rar w p q s) (hp:b≠p) (hq:b≠q) :
  Calls Tryz.prog 163 #[.pointer (some ⟨b,0,none⟩),.pointer (some ⟨p,0,none⟩)] w fun e w'=>e = .returned (.bool (decide ((x.next (if s.can x.sa 0 then 1 else 0)).line=0)))/\Zu w' b (x.next (if s.can x.sa 0 then 1 else 0))/\Rar w' p q (s.swap x.sa 0 1)/\Fr [b,p,q] w w':=by
 generalize hy:x.next (if s.can x.sa 0 then 1 else 0)=y
 have HY:=q9 hy
 clear hy
 obtain ⟨c0,c1,c2,c3,c4,c5,c6,c7,c8,c9,c10⟩:=zu h
 have z:=h.frozen
 go_enter Tryz.func163,Tryz.ntmps163
 go_wp2_with fail
 have k4:=qb c4
 have k8:=qb c8
 clear c0 c1 c2 c3 c4 c5 c6 c7 c8 c9 c10 z
 refine wiq ?_
 repeat (go_big_quiet_step ((go_at_call 54;exact Calls.in_same (xy _ _ _))))
 refine wpQuiet_nil ?_
 intro w0 F0
 rw [show Qg x.chunk x.i=x.sa from rfl]
 have h0:Zu w0 b x:=Ob.up h F0
 have A0:=hA.kept F0
 have D0:Fr [b,p,q] w w0:=F0.mono
 clear k4 k8 h hA F0
 obtain ⟨c0,c1,c2,c3,c4,c5,c6,c7,c8,c9,c10⟩:=zu h0
 have z:=h0.frozen
 go_wp2_with fail
 have A1:=(Rar.set A0 hp hq (i:=7) (.int .i64 6))
 have h1:Zu _ b { x with line:=6 }:=(Ob.set h0 (i:=7) (.int .i64 6))
 have D1:=(Fr.setCell' D0 (b:=b) (i:=7) (.int .i64 6) (by simp))
 clear c0 c1 c2 c3 c4 c5 c6 c7 c8 c9 c10 z
 generalize (w0.setCell ⟨b,7,none⟩ (.int .i64 6))=w1 at *
 refine (Ref.yt _ p q s _ 0 1 A1).mono ?_;rintro e w5 ⟨rfl,A5,F5⟩
 have h5:=Ob.kept h1 F5 (by simp;exact ⟨hp,hq⟩)
 have D5:=zm D1 F5 (by simp)
 clear A1 h1 D1 F5 A0 h0 D0
 obtain ⟨c0,c1,c2,c3,c4,c5,c6,c7,c8,c9,c10⟩:=zu h5
 have z:=h5.frozen
 cases hv:s.can x.sa 0
 ·have hn:y = { x with line:=0 }:=by rw [<- HY.out];unfold Cl.next;simp [hl,hv]
  subst hn
  go_wp2_with fail
  go_ret
  exact ⟨rfl,(Ob.set h5 _),(Rar.set A5 hp hq _),(Fr.setCell' D5 _ (by simp))⟩
 ·have hn:y = { x with line:=6 }:=by rw [<- HY.out];unfold Cl.next;simp [hl,hv]
  subst hn
  go_wp2_with fail
  go_ret
  exact ⟨rfl,h5,A5,D5⟩
theorem q4m (x:Cl) (hl:x.line=6) (hc:x.c.Ok) (b p q:Nat) (s:St) (w:World) (h:Zu w b x) (hA:Rar w p q s) (hp:b≠p) (hq:b≠q) :
  Calls Tryz.prog 163 #[.pointer (some ⟨b,0,none⟩),.pointer (some ⟨p,0,none⟩)] w fun e w'=>e = .returned (.bool (decide ((x.next (qq s.l 1)).line=0)))/\Zu w' b (x.next (qq s.l 1))/\Rar w' p q (s.load 1)/\Fr [b,p,q] w w':=by
 generalize hy:x.next (qq s.l 1)=y
 have HY:=q9 hy
 clear hy
 obtain ⟨c0,c1,c2,c3,c4,c5,c6,c7,c8,c9,c10⟩:=zu h
 have z:=h.frozen
 go_enter Tryz.func163,Tryz.ntmps163
 go_wp2_with fail
 have k4:=qb c4
 have k8:=qb c8
 clear c0 c1 c2 c3 c4 c5 c6 c7 c8 c9 c10 z
 refine wiq ?_
 repeat (go_big_quiet_step ((go_at_call 54;exact Calls.in_same (xy _ _ _))))
 refine wpQuiet_nil ?_
 intro w0 F0
 rw [show Qg x.chunk x.i=x.sa from rfl]
 have h0:Zu w0 b x:=Ob.up h F0
 have A0:=hA.kept F0
 have D0:Fr [b,p,q] w w0:=F0.mono
 clear k4 k8 h hA F0
 obtain ⟨c0,c1,c2,c3,c4,c5,c6,c7,c8,c9,c10⟩:=zu h0
 have z:=h0.frozen
 go_wp2_with fail
 have A1:=A0
 have h1:=h0
 have D1:=D0
 clear c0 c1 c2 c3 c4 c5 c6 c7 c8 c9 c10 z
 refine (Ref.zi _ p q s 1 A1).mono ?_;rintro e w5 ⟨rfl,A5,F5⟩
 have h5:=Ob.kept h1 F5 (by simp;exact ⟨hp,hq⟩)
 have D5:=zm D1 F5 (by simp)
 clear A1 h1 D1 F5 A0 h0 D0
 obtain ⟨c0,c1,c2,c3,c4,c5,c6,c7,c8,c9,c10⟩:=zu h5
 have z:=h5.frozen
 have hn:y = { x with g:=qq s.l 1,line:=7 }:=by rw [<- HY.out];unfold Cl.next;simp [hl]
 subst hn
 go_wp2_with fail
 go_ret
 exact ⟨rfl,(Ob.set (Ob.set h5 _) (i:=7) (.int .i64 7)),(Rar.set (Rar.set A5 hp hq _) hp hq (i:=7) (.int .i64 7)),(Fr.setCell' (Fr.setCell' D5 _ (by simp)) (b:=b) (i:=7) (.int .i64 7) (by simp))⟩
theorem q48 (x:Cl) (hl:x.line=7) (hc:x.c.Ok) (b p q:Nat) (s:St) (w:World) (h:Zu w b x) (hA:Rar w p q s) (hp:b≠p) (hq:b≠q) :
  Calls Tryz.prog 163 #[.pointer (some ⟨b,0,none⟩),.pointer (some ⟨p,0,none⟩)] w fun e w'=>e = .returned (.bool (decide ((x.next (x.told s)).line=0)))/\Zu w' b (x.next (x.told s))/\Rar w' p q (s.swap x.sa 1 (vq x.g))/\Fr [b,p,q] w w':=by
 generalize hy:x.next (x.told s)=y
 have HY:=q9 hy
 clear hy
 obtain ⟨c0,c1,c2,c3,c4,c5,c6,c7,c8,c9,c10⟩:=zu h
 have z:=h.frozen
 go_enter Tryz.func163,Tryz.ntmps163
 go_wp2_with fail
 have k4:=qb c4
 have k8:=qb c8
 clear c0 c1 c2 c3 c4 c5 c6 c7 c8 c9 c10 z
 refine wiq ?_
 repeat (go_big_quiet_step ((go_at_call 54;exact Calls.in_same (xy _ _ _))))
 refine wpQuiet_nil ?_
 intro w0 F0
 rw [show Qg x.chunk x.i=x.sa from rfl]
 have h0:Zu w0 b x:=Ob.up h F0
 have A0:=hA.kept F0
 have D0:Fr [b,p,q] w w0:=F0.mono
 clear k4 k8 h hA F0
 obtain ⟨c0,c1,c2,c3,c4,c5,c6,c7,c8,c9,c10⟩:=zu h0
 have z:=h0.frozen
 go_wp2_with fail
 refine (X8 _ _).mono ?_;rintro e _ ⟨rfl,rfl⟩
 go_wp2_with fail
 have A1:=A0
 have h1:=h0
 have D1:=D0
 clear c0 c1 c2 c3 c4 c5 c6 c7 c8 c9 c10 z
 refine (Ref.yt _ p q s _ 1 _ A1).mono ?_;rintro e w5 ⟨rfl,A5,F5⟩
 have h5:=Ob.kept h1 F5 (by simp;exact ⟨hp,hq⟩)
 have D5:=zm D1 F5 (by simp)
 clear A1 h1 D1 F5 A0 h0 D0
 obtain ⟨c0,c1,c2,c3,c4,c5,c6,c7,c8,c9,c10⟩:=zu h5
 have z:=h5.frozen
 have hn:y = { x with line:=8 }:=by rw [<- HY.out];unfold Cl.next;simp [hl]
 subst hn
 go_wp2_with fail
 go_ret
 exact ⟨rfl,(Ob.set h5 _),(Rar.set A5 hp hq _),(Fr.setCell' D5 _ (by simp))⟩
theorem q3o (x:Cl) (hl:x.line=8) (hc:x.c.Ok) (b p q:Nat) (s:St) (w:World) (h:Zu w b x) (hA:Rar w p q s) (hp:b≠p) (hq:b≠q) :
  Calls Tryz.prog 163 #[.pointer (some ⟨b,0,none⟩),.pointer (some ⟨p,0,none⟩)] w fun e w'=>e = .returned (.bool (decide ((x.next (qq s.l x.sa)).line=0)))/\Zu w' b (x.next (qq s.l x.sa))/\Rar w' p q (s.load x.sa)/\Fr [b,p,q] w w':=by
 generalize hy:x.next (qq s.l x.sa)=y
 have HY:=q9 hy
 clear hy
 obtain ⟨c0,c1,c2,c3,c4,c5,c6,c7,c8,c9,c10⟩:=zu h
 have z:=h.frozen
 go_enter Tryz.func163,Tryz.ntmps163
 go_wp2_with fail
 have k4:=qb c4
 have k8:=qb c8
 clear c0 c1 c2 c3 c4 c5 c6 c7 c8 c9 c10 z
 refine wiq ?_
 repeat (go_big_quiet_step ((go_at_call 54;exact Calls.in_same (xy _ _ _))))
 refine wpQuiet_nil ?_
 intro w0 F0
 rw [show Qg x.chunk x.i=x.sa from rfl]
 have h0:Zu w0 b x:=Ob.up h F0
 have A0:=hA.kept F0
 have D0:Fr [b,p,q] w w0:=F0.mono
 clear k4 k8 h hA F0
 obtain ⟨c0,c1,c2,c3,c4,c5,c6,c7,c8,c9,c10⟩:=zu h0
 have z:=h0.frozen
 go_wp2_with fail
 have A1:=A0
 have h1:=h0
 have D1:=D0
 clear c0 c1 c2 c3 c4 c5 c6 c7 c8 c9 c10 z
 refine (Ref.zi _ p q s _ A1).mono ?_;rintro e w5 ⟨rfl,A5,F5⟩
 have h5:=Ob.kept h1 F5 (by simp;exact ⟨hp,hq⟩)
 have D5:=zm D1 F5 (by simp)
 clear A1 h1 D1 F5 A0 h0 D0
 obtain ⟨c0,c1,c2,c3,c4,c5,c6,c7,c8,c9,c10⟩:=zu h5
 have z:=h5.frozen
 go_wp2_with fail
 refine (V5 _ _).mono ?_;rintro e _ ⟨rfl,rfl⟩
 have hn:y = { x with version:=Va (qq s.l x.sa),line:=0 }:=by rw [<- HY.out];unfold Cl.next;simp [hl]
 subst hn
 go_wp2_with fail
 go_ret
 exact ⟨rfl,(Ob.set (Ob.set h5 _) (i:=7) (.int .i64 0)),(Rar.set (Rar.set A5 hp hq _) hp hq (i:=7) (.int .i64 0)),(Fr.setCell' (Fr.setCell' D5 _ (by simp)) (b:=b) (i:=7) (.int .i64 0) (by simp))⟩
theorem q2t (x:Cl) (hl:x.live=false) (b p q:Nat) (w:World) (h:Zu w b x) :
  Calls Tryz.prog 163 #[.pointer (some ⟨b,0,none⟩),.pointer (some ⟨p,0,none⟩)] w fun e w'=>e = .returned (.bool (decide (x.line=0)))/\Fr [] w w':=by
 obtain ⟨c0,c1,c2,c3,c4,c5,c6,c7,c8,c9,c10⟩:=zu h
 unfold Cl.live at hl
 have l1:x.line≠1:=by intro h;rw [h] at hl;simp at hl
 have l2:x.line≠2:=by intro h;rw [h] at hl;simp at hl
 have l3:x.line≠3:=by intro h;rw [h] at hl;simp at hl
 have l4:x.line≠4:=by intro h;rw [h] at hl;simp at hl
 have l5:x.line≠5:=by intro h;rw [h] at hl;simp at hl
 have l6:x.line≠6:=by intro h;rw [h] at hl;simp at hl
 have l7:x.line≠7:=by intro h;rw [h] at hl;simp at hl
 have l8:x.line≠8:=by intro h;rw [h] at hl;simp at hl
 clear hl
 go_enter Tryz.func163,Tryz.ntmps163
 go_wp2_with fail
 have k4:=qb c4
 have k8:=qb c8
 have hc7:=c7
 clear c0 c1 c2 c3 c4 c5 c6 c7 c8 c9 c10
 refine wiq ?_
 repeat (go_big_quiet_step ((go_at_call 54;exact Calls.in_same (xy _ _ _))))
 refine wpQuiet_nil ?_
 intro w0 F0
 have c7:=F0.cell hc7 (by simp)
 go_wp2_with fail
 go_ret
 exact ⟨rfl,F0⟩
theorem R6 (x:Cl) (hc:x.c.Ok) (b p q:Nat) (s:St) (w:World) (h:Zu w b x) (hA:Rar w p q s) (hp:b≠p) (hq:b≠q) :
  Calls Tryz.prog 163 #[.pointer (some ⟨b,0,none⟩),.pointer (some ⟨p,0,none⟩)] w fun e w'=>e = .returned (.bool (decide ((x.step s).1.line=0)))/\Zu w' b (x.step s).1/\Rar w' p q (x.step s).2/\Fr [b,p,q] w w':=by
 unfold Cl.step
 cases hl:x.live with
 | false=>exact (q2t x hl b p q w h).mono (by rintro e w' ⟨rfl,F⟩;exact ⟨rfl,Ob.up h F,hA.kept F,F.mono⟩)
 | true =>
  unfold Cl.live at hl
  simp only [Bool.and_eq_true,decide_eq_true_eq] at hl
  have hl':x.line=1\/x.line=2\/x.line=3\/x.line=4\/x.line=5\/x.line=6\/x.line=7\/x.line=8:=by omega
  rw [qf rfl]
  rcases hl' with l | l | l | l | l | l | l | l
  ·rw [show x.act s=s.load (wrap64 (x.chunk+6)) by unfold Cl.act;simp [l],show x.told s=qq s.l (wrap64 (x.chunk+6)) by unfold Cl.told;simp [l]];exact q4a x l hc b p q s w h hA hp hq
  ·rw [show x.act s=s.add (wrap64 (x.chunk+1)) 1 by unfold Cl.act;simp [l],show x.told s=qq s.l (wrap64 (x.chunk+1)) by unfold Cl.told;simp [l]];exact q2f x l hc b p q s w h hA hp hq
  ·rw [show x.act s=s.store (wrap64 (x.sa+1)) x.key by unfold Cl.act;simp [l]];exact q37 x l hc b p q s w h hA hp hq
  ·rw [show x.act s=s.store (wrap64 (x.sa+2)) x.data by unfold Cl.act;simp [l]];exact q2m x l hc b p q s w h hA hp hq
  ·rw [show x.act s=s.swap x.sa 0 1 by unfold Cl.act;simp [l],show x.told s=(if s.can x.sa 0 then 1 else 0) by unfold Cl.told;simp [l]];exact q2j x l hc b p q s w h hA hp hq
  ·rw [show x.act s=s.load 1 by unfold Cl.act;simp [l],show x.told s=qq s.l 1 by unfold Cl.told;simp [l]];exact q4m x l hc b p q s w h hA hp hq
  ·rw [show x.act s=s.swap x.sa 1 (vq x.g) by unfold Cl.act;simp [l]];exact q48 x l hc b p q s w h hA hp hq
  ·rw [show x.act s=s.load x.sa by unfold Cl.act;simp [l],show x.told s=qq s.l x.sa by unfold Cl.told;simp [l]];exact q3o x l hc b p q s w h hA hp hq
end Go.Proofs.YtppajakfaomkaaaGreatDoor.Mx
namespace Go.Proofs.YtppajakfaomkaaaGreatDoor.Mx
open Go.RowKit Ar Ref Og Mp
structure Gt where
 key:Int
 c:Cf
 w:Wk
 l:Option Lok
 over:Bool
def Gt.new (c:Cf) (key:Int):Gt:=⟨key,c,Wk.new c key,none,false⟩
def Gt.step (g:Gt) (s:St):Gt×St :=
 if g.over=true then (g,s) else
 match g.l with
 | some x=>({ g with l:=some (x.step s).1,over:=decide ((x.step s).1.line=0) },(x.step s).2)
 | none=>(if (g.w.step s).1.line=0 then { g with w:=(g.w.step s).1,l:=some (Lok.new g.c (g.w.step s).1.at_ g.key g.key 1073741824) } else { g with w:=(g.w.step s).1 },(g.w.step s).2)
def Vp:An:=⟨0,false,0,0,0,[]⟩
def Xv (l:List It) (key:Int):An :=
 match l.find? (fun y=>y.k == key) with
 | some y=>⟨0,decide (0<=q47 y.d),max 0 (q47 y.d),q9m y.d,0,[]⟩
 | none=>⟨0,false,0,-1,0,[]⟩
def Gt.answer (g:Gt):An:=if g.over=true then (match g.l with | some x=>Xv x.l g.key | none=>Vp) else Vp
structure Sn where
 c:Cf
 t:Int
 seq:Int
 lo:Int
 hi:Int
 k:Km
 w:Option Wk
 l:Option Lok
 line:Int
 at_:Int
 n:Int
 items:List It
def Sn.new (c:Cf) (t seq lo hi:Int):Sn:=⟨c,t,seq,lo,hi,Km.new c t seq,none,none,10,0,0,[]⟩
def Sn.chunk (x:Sn) (at_:Int):Sn:={ x with at_:=at_,line:=1,l:=some (Lok.new x.c at_ x.lo x.hi x.k.version) }
def Zx:List It->It->List It
 | [],x=>[x]
 | y :: r,x=>if y.k<x.k then y :: Zx r x else if y.k=x.k then x :: r else x :: y :: r
def Sn.step (x:Sn) (s:St):Sn×St :=
 if x.line=10 then
  (if x.hi<x.lo then ({ x with line:=0 },s)
   else (if (x.k.step s).1.line=0 then { x with k:=(x.k.step s).1,w:=some (Wk.new x.c x.lo),line:=if (x.k.step s).1.e=0 then 11 else 0 } else { x with k:=(x.k.step s).1 },(x.k.step s).2))
 else if x.line=11 then
  (match x.w with
   | some y=>(if (y.step s).1.line=0 then ({ x with w:=some (y.step s).1 }:Sn).chunk (y.step s).1.at_ else { x with w:=some (y.step s).1 },(y.step s).2)
   | none=>(x,s))
 else if x.line=1 then
  (match x.l with
   | some y=>(if (y.step s).1.line=0 then { x with l:=some (y.step s).1,items:=(y.step s).1.l.foldl Zx x.items,line:=2 } else { x with l:=some (y.step s).1 },(y.step s).2)
   | none=>(x,s))
 else if x.line=2 then
  ({ x with n:=atW (qq s.l (wrap64 (x.at_+2))),line:=if atW (qq s.l (wrap64 (x.at_+2)))=0 then 4 else 3 },s.load (wrap64 (x.at_+2)))
 else if x.line=3 then
  (if qq s.l (wrap64 x.n)<=x.hi then x.chunk x.n else { x with line:=4 },s.load (wrap64 x.n))
 else if x.line=4 then ({ x with line:=0 },s.store (q9x x.t) (Q8 x.seq 0))
 else (x,s)
def Xu (l:List It):List (Int×Int):=l.filterMap fun y=>if 0<=q47 y.d then some (y.k,q47 y.d) else none
def Sn.answer (x:Sn):An :=
 if x.line≠0 then Vp else if x.k.e≠0 then ⟨x.k.e,false,0,0,0,[]⟩ else ⟨0,false,0,-1,x.k.version,Xu x.items⟩
structure Bd where
 c:Cf
 chunk:Int
 mate:Int
 after:Int
 versions:List Int
 line:Int
 i:Int
 mn:Int
 at_:Int
 x:It
 l:List It
 groups:List (List It)
 w:List (Int×Int)
 repl:Int
 e:Int
def Bd.new (c:Cf) (chunk mate after:Int) (vs:List Int):Bd:=⟨c,chunk,mate,after,vs,1,0,0,0,⟨0,0,0⟩,[],[],[],0,0⟩
def Bd.on (b:Bd):Bd:=if kw b.c b.mate<=b.i+1 then { b with i:=b.i+1,groups:=xz (Yz b.l b.versions) b.c.c,line:=5 } else { b with i:=b.i+1,line:=2 }
def Bd.sa (b:Bd):Int:=yj b.c b.chunk b.mate b.i
def Bd.nth (b:Bd):Int×Int:=b.w.getD b.i.toNat (0,0)
def Bd.five (b:Bd) (v:Int):Bd :=
 let n:=(b.groups.length:Int) * za b.c
 let l:=ym b.c (wrap64 v) b.after b.mn b.groups
 if v<1\/b.c.wd - n<v\/l=[] then { b with at_:=v,e:=14,line:=0 } else { b with at_:=v,w:=yz l,i:=0,line:=6 }
def Bd.step (b:Bd) (s:St):Bd×St :=
 if b.line=1 then (({ b with mn:=qq s.l (wrap64 b.chunk),i:=-1 }:Bd).on,s.load (wrap64 b.chunk))
 else if b.line=2 then (let b':Bd:={ b with x:=⟨0,Va (qq s.l b.sa),0⟩,line:=3 };if qq s.l b.sa<3 then b'.on else b',s.load b.sa)
 else if b.line=3 then ({ b with x:=⟨qq s.l (wrap64 (b.sa+1)),b.x.v,b.x.d⟩,line:=4 },s.load (wrap64 (b.sa+1)))
 else if b.line=4 then (let x':It:=⟨b.x.k,b.x.v,qq s.l (wrap64 (b.sa+2))⟩;({ b with x:=x',l:=b.l++[x'] }:Bd).on,s.load (wrap64 (b.sa+2)))
 else if b.line=5 then (b.five (qq s.l 2),s.add 2 (b.groups.length * za b.c))
 else if b.line=6 then ({ b with i:=b.i+1,line:=if (b.w.length:Int)<=b.i+1 then 7 else 6 },s.store b.nth.1 b.nth.2)
 else if b.line=7 then ({ b with line:=8 },s.swap (wrap64 (b.chunk+5)) 0 b.at_)
 else if b.line=8 then ({ b with repl:=qq s.l (wrap64 (b.chunk+5)),line:=0 },s.load (wrap64 (b.chunk+5)))
 else (b,s)
def Ld.three (x:Ld):Int×Int×Int:=if x.line≠0 then (0,0,0) else if x.alone=true then (x.l,0,x.after) else (x.l,x.n,x.after)
structure Fm where
 chunk:Int
 part:Int
 l:Ld
 s:Option Sl
 n:Option Nd
 b:Option Bd
 p:Option Sp
 repl:Int
def J1 (ds:List Int):Bool:=match ds with | []=>false | d :: _=>decide (bits .and .i64 d 1=1)
def Fm.new (c:Cf) (chunk:Int) (draw:Bool):Fm:=⟨chunk,1,Ld.new c chunk draw,none,none,none,none,0⟩
def Fm.splice (f:Fm) (c:Cf) (repl:Int):Fm:={ f with repl:=repl,part:=6,p:=some (Sp.new c f.l.three.1 f.l.three.2.1 repl) }
structure Md where
 c:Cf
 draws:List Int
 f:List Fm
 e:Int
def Md.new (c:Cf) (chunk:Int) (ds:List Int):Md:=⟨c,ds,[Fm.new c chunk (J1 ds)],0⟩
def Nd.new (c:Cf):Nd:=⟨c,0,1,0,0,.slice none 0 0,[]⟩
def Md.step (m:Md) (s:St):Md×St :=
 match m.f.getLast? with
 | none=>(m,s)
 | some f =>
  let put (g:Fm):Md:={ m with f:=m.f.dropLast++[g] }
  if f.part=1 then
   let l:=(f.l.step s).1
   let m':Md:=if l.drew=true/\f.l.drew=false/\m.draws≠[] then { m with draws:=m.draws.tail } else m
   ({ m' with f:=m.f.dropLast++[if l.line=0 then { f with l:=l,part:=2,s:=some (Sl.new m.c l.three.1 l.three.2.1) } else { f with l:=l }] },(f.l.step s).2)
  else if f.part=2 then
   (match f.s with
    | some x=>(put { f with s:=some (x.step s).1,part:=if (x.step s).1.line=0 then 3 else 2 },(x.step s).2)
    | none=>(m,s))
  else if f.part=3 then
   (let r:=qq s.l (wrap64 (f.l.three.1+5))
    put (if r=0 then { f with part:=4 } else f.splice m.c r),s.load (wrap64 (f.l.three.1+5)))
  else if f.part=4 then
   (match f.n with
    | none=>(put { f with n:=some (Nd.new m.c) },s.load 1)
    | some x=>(put (if (x.step s).1.line=0 then { f with n:=some (x.step s).1,part:=5,b:=some (Bd.new m.c f.l.three.1 f.l.three.2.1 f.l.three.2.2 (x.step s).1.l) } else { f with n:=some (x.step s).1 }),(x.step s).2))
  else if f.part=5 then
   (match f.b with
    | some x=>(if (x.step s).1.line=0 then (if (x.step s).1.e=0 then put (({ f with b:=some (x.step s).1 }:Fm).splice m.c (x.step s).1.repl) else { m with e:=(x.step s).1.e,f:=[] }) else put { f with b:=some (x.step s).1 },(x.step s).2)
    | none=>(m,s))
  else if f.part=6 then
   (match f.p with
    | some x=>(if (x.step s).1.line=0 then (if (x.step s).1.stuck=0 then { m with f:=m.f.dropLast } else { m with f:=m.f.dropLast++[({ f with p:=some (x.step s).1 }:Fm).splice m.c f.repl,Fm.new m.c (x.step s).1.stuck (J1 m.draws)] }) else put { f with p:=some (x.step s).1 },(x.step s).2)
    | none=>(m,s))
  else (m,s)
structure Pt where
 c:Cf
 key:Int
 data:Int
 draws:List Int
 w:Wk
 x:Option Cl
 m:Option Md
 over:Bool
 version:Int
 e:Int
 placed:Bool
def Pt.new (c:Cf) (key data:Int) (ds:List Int):Pt:=⟨c,key,data,ds,Wk.new c key,none,none,false,0,0,false⟩
def Pt.step (p:Pt) (s:St):Pt×St :=
 if p.over=true then (p,s) else
 match p.m with
 | some m=>(if (m.step s).1.f=[] then { p with placed:=false,draws:=(m.step s).1.draws,e:=(m.step s).1.e,over:=decide ((m.step s).1.e≠0),m:=none,x:=none,w:=Wk.new p.c p.key } else { p with placed:=false,draws:=(m.step s).1.draws,m:=some (m.step s).1 },(m.step s).2)
 | none =>
  match p.x with
  | some x =>
   (let y:=(x.step s).1
    let p':Pt:={ p with x:=some y,placed:=decide (x.i<0) && decide (0<=y.i) }
    if y.line=0 then (if 0<=y.version then { p' with version:=y.version,over:=true } else { p' with m:=some (Md.new p.c y.chunk p.draws) }) else p',(x.step s).2)
  | none=>(if (p.w.step s).1.line=0 then { p with placed:=false,w:=(p.w.step s).1,x:=some (Cl.new p.c (p.w.step s).1.at_ p.key p.data) } else { p with placed:=false,w:=(p.w.step s).1 },(p.w.step s).2)
structure Th where
 next:Int
 busy:Bool
 scans:Int
 p:Option Pt
 g:Option Gt
 s:Option Sn
def Th.new:Th:=⟨0,false,0,none,none,none⟩
structure Ev where
 th:Int
 ix:Int
 op:O
 begin_:Int
 end_:Int
 steps:Int
 alloc:Int
 at_:Int
 version:Int
 ans:An
structure Mc where
 c:Cf
 ops:List (List O)
 draws:List Int
 a:St
 t:List Th
 now:Int
 idle:Int
 ticks:List Int
 e:List Ev
def Mc.th (m:Mc) (t:Int):Th:=m.t.getD t.toNat Th.new
def Mc.opsOf (m:Mc) (t:Int):List O:=if t<0 then [] else m.ops.getD t.toNat []
def Mc.over (m:Mc) (t:Int):Bool:=decide (t<0) || decide ((m.t.length:Int)<=t) || (!(m.th t).busy && decide (((m.opsOf t).length:Int)<=(m.th t).next))
def vh (t i:Int):Int:=if t<0\/8<=t\/i<0\/1000<=i then -1 else t * 1000+i
def ofP (w:Int):Int×Int:=if w<0\/8000<=w then (-1,-1) else (w / 1000,w % 1000)
def Mc.drawsOf (m:Mc) (w:Int):List Int:=if m.draws=[] then [] else m.draws.drop (Int.tmod (ofP w).2 m.draws.length).toNat
def Mc.begun (m:Mc) (t:Int):Th :=
 let x:=m.th t
 let o:=(m.opsOf t).getD x.next.toNat (0,0,0,0)
 let w:=vh t x.next
 if o.1=1 then ⟨x.next+1,true,x.scans,some (Pt.new m.c o.2.1 (Kj w o.2.2.1) (m.drawsOf w)),none,none⟩
 else if o.1=2 then ⟨x.next+1,true,x.scans,some (Pt.new m.c o.2.1 (Kj w (-1)) (m.drawsOf w)),none,none⟩
 else if o.1=3 then ⟨x.next+1,true,x.scans,none,some (Gt.new m.c o.2.1),none⟩
 else ⟨x.next+1,true,x.scans+1,none,none,some (Sn.new m.c t (x.scans+1) o.2.1 o.2.2.2)⟩
def Mc.begins (m:Mc) (t:Int):Mc :=
 let x:=m.th t
 { m with t:=m.t.set t.toNat (m.begun t),e:=m.e++[⟨t,x.next,(m.opsOf t).getD x.next.toNat (0,0,0,0),m.now,-1,0,-1,-1,-1,Vp⟩] }
def Mc.event (m:Mc) (t i:Int):Option Nat:=m.e.findIdx? fun x=>x.th == t && x.ix == i
def qcz (p:Pt):An:=if p.e=0 then ⟨0,false,0,-1,p.version,[]⟩ else ⟨p.e,false,0,0,0,[]⟩
def q9y:Ev:=⟨0,0,(0,0,0,0),0,0,0,0,0,0,Vp⟩
def Mc.steps (m:Mc) (t:Int) (k:Nat):Mc :=
 let x:=m.th t
 let v:=m.e.getD k q9y
 match x.p with
 | some p =>
  let p':=(p.step m.a).1
  let v1:Ev:=if p'.placed=true then { v with alloc:=m.now } else v
  let v2:Ev:=if p'.over=true then { v1 with ans:=qcz p',steps:=v1.steps+1,end_:=m.now } else { v1 with steps:=v1.steps+1 }
  { m with a:=(p.step m.a).2,t:=m.t.set t.toNat { x with p:=some p',busy:=!p'.over && x.busy },e:=m.e.set k v2 }
 | none =>
  match x.g with
  | some g =>
   let g':=(g.step m.a).1
   let v1:Ev:={ v with ans:=g'.answer,steps:=v.steps+1 }
   { m with a:=(g.step m.a).2,t:=m.t.set t.toNat { x with g:=some g',busy:=!g'.over && x.busy },e:=m.e.set k (if g'.over=true then { v1 with end_:=m.now } else v1) }
  | none =>
   match x.s with
   | some y =>
    let y':=(y.step m.a).1
    let v1:Ev:={ v with ans:=y'.answer,steps:=v.steps+1 }
    { m with a:=(y.step m.a).2,t:=m.t.set t.toNat { x with s:=some y',busy:=!decide (y'.line=0) && x.busy },e:=m.e.set k (if y'.line=0 then { v1 with end_:=m.now } else v1) }
   | none=>m
def Mc.notes (m:Mc):Mc :=
 let l:=m.a.a
 let m1:Mc:=if l.kind=4/\l.at_=1 then { m with ticks:=m.ticks++[m.now] } else m
 if l.kind=3/\l.ok=true/\l.old=1/\3<=l.new then
  match m1.event (ofP (q9m (qq m.a.l (wrap64 (l.at_+2))))).1 (ofP (q9m (qq m.a.l (wrap64 (l.at_+2))))).2 with
  | some k=>{ m1 with e:=m1.e.set k { (m1.e.getD k q9y) with at_:=m.now,version:=Va l.new } }
  | none=>m1
 else m1
def Mc.pick (m:Mc) (t:Int):Mc :=
 if m.over t=true then { m with idle:=m.idle+1,now:=m.now+1 }
 else
  let m1:=if (m.th t).busy=true then m else m.begins t
  match m1.event t ((m1.th t).next - 1) with
  | some k =>
   let m2:=m1.steps t k
   let m3:=if m1.a.n<m2.a.n then m2.notes else m2
   { m3 with now:=m3.now+1 }
  | none=>m1
end Go.Proofs.YtppajakfaomkaaaGreatDoor.Mx
namespace Go.Proofs.YtppajakfaomkaaaGreatDoor.Vw
open Go.RowKit Ar Mx
theorem hdBd {n:Nat} {c a:Int} (h:Wv n c a=true):0<=a/\a<=n - (7+3 * c):=by unfold Wv at h;simpa using h
end Go.Proofs.YtppajakfaomkaaaGreatDoor.Vw
