/- Parts. -/
import Derived.Test.YtleclbldlladmaaGreatVab
import Derived.Test.YtleclbldlladmaaGreatVac
import Derived.Test.YtleclbldlladmaaGreatVad
import Derived.Test.YtleclbldlladmaaGreatVak
import Derived.Test.YtleclbldlladmaaGreatVal
import Derived.Test.YtleclbldlladmaaGreatVau
set_option linter.unusedVariables false
set_option linter.unusedSimpArgs false
set_option maxRecDepth 100000
set_option maxHeartbeats 12800000
namespace Go.Proofs.YtleclbldlladmaaGreat.Og
open Go.RowKit Go.Maps Ar
theorem qbk {w w':World} (f:Fr [] w w') {b:Nat} {o:Obj} (h:w.heap[b]? = some o):w'.heap[b]? = some o:=f.heap h Lc
def sc (r:Nat):Value:=.agg #[.int .i64 2,.int .i64 4,.int .i64 200,.int .i64 1000,.slice (some ⟨r,0,none⟩) 1 1,.slice none 0 0,.slice none 0 0]
end Go.Proofs.YtleclbldlladmaaGreat.Og
namespace Go.Proofs.YtleclbldlladmaaGreat.Ro
open Go.RowKit Go.Maps Ar Og
def LenAt (w:World) (rs:List (List O)) (x:Value) (wr:World):Prop:=∃ n:Nat,n<=rs.length/\x = .int .i64 n/\wr=w/\∀ i,i<n->long (J7 rs i)=false
def qcu (w:World) (b:Nat) (Z:Array Value) (rs:List (List O)) (x:Value) (wr:World):Prop:=∃ n:Nat,n<=rs.length/\x = .int .i64 n/\wr.heap[b]? = some (.cells Z 27 (0,0))/\Fr [] w wr/\∀ i,i<n->qco (J7 rs i)=true
def qcl (w:World) (b:Nat) (Z:Array Value) (os:List O) (x:Value) (wr:World):Prop:=∃ n:Nat,n<=os.length/\x = .int .i64 n/\wr.heap[b]? = some (.cells Z 27 (0,0))/\Fr [] w wr/\∀ i,i<n->qbv (q2h os i)=true
theorem q9o {rs:List (List O)} (h:∀ i,i<rs.length->long (J7 rs i)=false):rs.any long=false:=by rw [List.any_eq_false];intro y hy;obtain ⟨i,hi,rfl⟩:=List.getElem_of_mem hy;exact Gg
theorem J4 (t c wd v:Int) (rs:List (List O)) (ps ds:List Int) (s:Value) (w:World) (h:Scr w s t c wd v rs ps ds) :
  Calls Tryz.prog 23 #[s] w fun e w'=>e = .returned (.int .i64 (Zj t c wd v rs ps))/\Fr [] w w':=by
 obtain ⟨vo,vp,vd,rfl,hr,hp,hd⟩:=h;obtain ⟨a,cap,x,rfl,hl,hc,hrow⟩:=hr;obtain ⟨a2,cap2,rfl,hl2,-,-⟩:=hp;have HC:=q9 hc;have HR:=q9 hrow;clear hc hrow hd;unfold maxLen at hl hl2;go_enter Tryz.func23,Tryz.ntmps23;go_wp2_with fail;refine (Ref.Wq t c wd v _).mono ?_;rintro e w1 ⟨rfl,F1⟩;have hb:=F1.heap (Go.heap_alloc_new w (.cells #[.int .i64 t,.int .i64 c,.int .i64 wd,.int .i64 v,.slice a rs.length cap,.slice a2 ps.length cap2,vd] 27)) Lc;have G1:=((Fr.refl [] w).alloc (.cells #[.int .i64 t,.int .i64 c,.int .i64 wd,.int .i64 v,.slice a rs.length cap,.slice a2 ps.length cap2,vd] 27)).trans F1;clear F1;generalize w.heap.size=bs at *;by_cases hcp:Pl.code t c wd v=0
 ·have hsc:Zj t c wd v rs ps=if large t rs ps=true then 12 else if rs.all qco=true then 0 else 10:=by rw [Zj,qf hcp]
  rw [hcp];clear hcp;obtain ⟨c0,c1,c2,c3,c4,c5,c6⟩:=q2n hb;by_cases h1:t<rs.length
  ·have g:decide ((rs.length:Int)>t)=true:=by simpa using h1
   have e:large t rs ps=true:=by unfold large;simp [h1]
   exact Gf
  have g:decide ((rs.length:Int)>t)=false:=by simpa using h1
  by_cases h2:20000<ps.length
  ·have g2:decide ((ps.length:Int)>20000)=true:=by simp;omega
   have e:large t rs ps=true:=by unfold large;simp [h2]
   exact Gf
  have g2:decide ((ps.length:Int)>20000)=false:=by simp;omega
  have hlg:large t rs ps=rs.any long:=by unfold large;simp [h1,h2]
  rw [hlg] at hsc;have HB:=q9 hb;have HS:=q9 hsc;clear hsc hlg hb h1 h2;go_wp2_with fail;go_loopw [4] (LenAt w1 rs) (fun x _=>rs.length - (intOf x).toNat);case atStart=>exact ⟨0,Nat.zero_le _,rfl,rfl,by omega⟩
  case round =>
   obtain ⟨n,hn,rfl,rfl,hi⟩:=hrel;by_cases hlt:n<rs.length
   ·rcases HC.out with hz | ⟨b,off,rfl,hbb,hcell⟩
    ·omega
    have d0:=Zz G1 (hcell n hlt);obtain ⟨a3,cap3,hxe,hl3,-,-⟩:=HR.out n hlt;rw [hxe] at d0;clear hcell hxe;cases hg:long (J7 rs n) with
    | true =>
     have g3:decide (((J7 rs n).length:Int)>1000)=true:=by unfold long at hg;simp at hg ⊢;omega
     have hany:rs.any long=true:=List.any_eq_true.2 ⟨_,Uq hlt,hg⟩;clear hg HC HB;go_wp2;go_ret;exact ⟨by rw [HS.out,hany];rfl,G1⟩
    | false =>
     have g3:decide (((J7 rs n).length:Int)>1000)=false:=by unfold long at hg;simp at hg ⊢;omega
     have HG:=q9 hg;clear hg;go_wp2;go_roundw
     case rel =>
      refine ⟨n+1,by omega,by go_num,rfl,fun i hi'=>?_⟩;by_cases hin:i=n
      ·rw [hin];exact HG.out
      ·exact hi i Lb
     case measure=>simp [intOf];omega
   ·obtain rfl:n=rs.length:=by omega
    have hany:rs.any long=false:=q9o hi;have HA:=q9 hany;clear hi hany hn;go_wp2_with fail;clear c0 c1 c2 c3 c4 c5 c6 g g2;go_loopw [5] (qcu wr bs #[.int .i64 t,.int .i64 c,.int .i64 wd,.int .i64 v,.slice a rs.length cap,.slice a2 ps.length cap2,vd] rs) (fun x _=>rs.length - (intOf x).toNat);case atStart=>exact ⟨0,Nat.zero_le _,rfl,HB.out,Fr.refl _ _,by omega⟩
    case round =>
     obtain ⟨n,hn,rfl,hb,Fq,hi⟩:=hrel;obtain ⟨c0,c1,c2,c3,c4,c5,c6⟩:=q2n hb;by_cases hlt:n<rs.length
     ·rcases HC.out with hz | ⟨b,off,rfl,hbb,hcell⟩
      ·omega
      go_wp2_with fail;go_loopw [6] (qcl wr bs #[.int .i64 t,.int .i64 c,.int .i64 wd,.int .i64 v,.slice (some ⟨b,off,none⟩) rs.length cap,.slice a2 ps.length cap2,vd] (J7 rs n)) (fun x _=>(J7 rs n).length - (intOf x).toNat);case atStart=>exact ⟨0,Nat.zero_le _,rfl,hb,Fr.refl _ _,by omega⟩
      case round =>
       obtain ⟨m,hm,rfl,hb2,Fz,hj⟩:=hrel;clear c0 c1 c2 c3 c4 c5 c6 hb;have G2:=(G1.trans Fq).trans Fz;obtain ⟨c0,c1,c2,c3,c4,c5,c6⟩:=q2n hb2;have d0:=Zz G2 (hcell n hlt);obtain ⟨a3,cap3,hxe,hl3,-,hc3⟩:=(HR.out n hlt).up G2;rw [hxe] at d0;unfold maxLen at hl3;by_cases hlt2:m<(J7 rs n).length
       ·rcases hc3 with hz | ⟨b2,off2,rfl,hbb2,hcell2⟩
        ·omega
        obtain ⟨d1,d2,d3,d4⟩:=hcell2 m hlt2;clear hcell2 hxe;go_wp2_with fail;refine (q91 _ _ _ _ _).mono ?_;rintro e wy ⟨rfl,Fy⟩;have hb3:=qbk Fy hb2;clear c0 c1 c2 c3 c4 c5 c6 d0 d1 d2 d3 d4 hb2;cases hg:qbv (q2h (J7 rs n) m) with
        | false =>
         have hg':=hg;unfold qbv at hg';rw [hg'];go_wp2;go_ret;exact ⟨by rw [HS.out,HA.out,q5x (Uq hlt) (q5x (q8y hlt2) hg)];rfl,G2.trans Fy⟩
        | true =>
         have hg':=hg;unfold qbv at hg';rw [hg'];go_wp2;go_roundw
         case rel =>
          refine ⟨m+1,by omega,by go_num,hb3,Fz.trans Fy,fun i hi'=>?_⟩;by_cases hin:i=m
          ·rw [hin];exact hg
          ·exact hj i Lb
         case measure=>simp [intOf];omega
       ·obtain rfl:m=(J7 rs n).length:=by omega
        clear hc3 hxe;go_wp2;go_roundw
        case rel =>
         refine ⟨n+1,by omega,by go_num,hb2,Fq.trans Fz,fun i hi'=>?_⟩;by_cases hin:i=n
         ·rw [hin];exact q89 hj
         ·exact hi i Lb
        case measure=>simp [intOf];omega
     ·obtain rfl:n=rs.length:=by omega
      go_wp2;go_ret;exact ⟨by rw [HS.out,HA.out,q7v hi];rfl,G1.trans Fq⟩
 ·have hsc:Zj t c wd v rs ps=Pl.code t c wd v:=by rw [Zj,qd hcp]
  have g:(Pl.code t c wd v != 0)=true:=by simp [hcp]
  clear hb;generalize Pl.code t c wd v=q at *;clear hcp;go_wp2;go_ret;exact ⟨by rw [hsc];rfl,G1⟩
end Go.Proofs.YtleclbldlladmaaGreat.Ro
namespace Go.Proofs.YtleclbldlladmaaGreat.Wd
open Go.RowKit Ar Ref Og Mx
def Tg (t c wd v:Int) (rs:List (List O)) (ps ds:List Int) (k:Int):Bool:=decide (k<ps.length) || decide (10<rs.length) || decide (50<ds.length) || decide (8000<wd) || rs.any (fun r=>decide (60<r.length)) || decide (Zj t c wd v rs ps≠0)
theorem qb9 {t c wd v:Int} {rs:List (List O)} {ps ds:List Int} {k:Int} (h:Tg t c wd v rs ps ds k=false):(ps.length:Int)<=k/\rs.length<=10/\ds.length<=50/\wd<=8000/\(∀ r,r∈rs->r.length<=60)/\Zj t c wd v rs ps=0:=by unfold Tg at h;simp only [Bool.or_eq_false_iff,decide_eq_false_iff_not] at h;obtain ⟨⟨⟨⟨⟨h1,h2⟩,h3⟩,h4⟩,h5⟩,h6⟩:=h;exact ⟨by omega,by omega,by omega,by omega,fun r hr=>by have:=List.any_eq_false.1 h5 r hr;simpa using this,by omega⟩
def WdAt (w:World) (rs:List (List O)) (x:Value) (wr:World):Prop:=∃ n:Nat,n<=rs.length/\x = .int .i64 n/\wr=w/\∀ i,i<n->¬ 60<(J7 rs i).length
theorem wide_any (t c wd v:Int) (rs:List (List O)) (ps ds:List Int) (s:Value) (k:Int) (w:World) (h:Scr w s t c wd v rs ps ds) :
  Calls Tryz.prog 6 #[s,.int .i64 k] w fun e w'=>e = .returned (.bool (Tg t c wd v rs ps ds k))/\Fr [] w w':=by
 have H:=q9 h;obtain ⟨vo,vp,vd,rfl,hr,hp,hd⟩:=h;obtain ⟨a,cap,x,rfl,hl,hc,hrow⟩:=hr;obtain ⟨a2,cap2,rfl,hl2,-,-⟩:=hp;obtain ⟨a3,cap3,rfl,hl3,-,-⟩:=hd;have HC:=q9 hc;have HR:=q9 hrow;clear hc hrow;unfold maxLen at hl hl2 hl3;generalize hX:Tg t c wd v rs ps ds k=X;have HX:=q9 hX;clear hX;have F0:=(Fr.refl [] w).alloc (.cells #[.int .i64 t,.int .i64 c,.int .i64 wd,.int .i64 v,.slice a rs.length cap,.slice a2 ps.length cap2,.slice a3 ds.length cap3] 27);have hb:=Go.heap_alloc_new w (.cells #[.int .i64 t,.int .i64 c,.int .i64 wd,.int .i64 v,.slice a rs.length cap,.slice a2 ps.length cap2,.slice a3 ds.length cap3] 27);obtain ⟨c0,c1,c2,c3,c4,c5,c6⟩:=q2n hb;by_cases h1:k<ps.length
 ·have g:decide ((ps.length:Int)>k)=true:=by simpa using h1
  have e:X=true:=by rw [<- HX.out];unfold Tg;simp [h1]
  clear h1;exact Df
 have g1:decide ((ps.length:Int)>k)=false:=by simpa using h1
 by_cases h2:10<rs.length
 ·have g:decide ((rs.length:Int)>10)=true:=by simp;omega
  have e:X=true:=by rw [<- HX.out];unfold Tg;simp [h2]
  clear h1 h2;exact Df
 have g2:decide ((rs.length:Int)>10)=false:=by simp;omega
 by_cases h3:50<ds.length
 ·have g:decide ((ds.length:Int)>50)=true:=by simp;omega
  have e:X=true:=by rw [<- HX.out];unfold Tg;simp [h3]
  clear h1 h2 h3;exact Df
 have g3:decide ((ds.length:Int)>50)=false:=by simp;omega
 by_cases h4:8000<wd
 ·have g:decide (wd>8000)=true:=by simpa using h4
  have e:X=true:=by rw [<- HX.out];unfold Tg;simp [h4]
  clear h1 h2 h3 h4;exact Df
 have g4:decide (wd>8000)=false:=by simpa using h4
 have HXX:=q9 (show X=(rs.any (fun r=>decide (60<r.length)) || decide (Zj t c wd v rs ps≠0)) by rw [<- HX.out];unfold Tg;simp [h1,h2,h3,h4]);have hrl:rs.length<=10:=by omega
 have HB:=q9 hb;have HF0:=q9 F0;clear h1 h2 h3 h4 HX hb F0;go_enter Tryz.func6,Tryz.ntmps6;go_wp2_with fail;generalize hw1:World.alloc w _=w1 at *;generalize w.heap.size=bs at *;go_loopw [5] (fun x wr=>WdAt w1 rs x wr) (fun x _=>rs.length - (intOf x).toNat);case atStart=>exact ⟨0,Nat.zero_le _,rfl,rfl,by omega⟩
 case round =>
  obtain ⟨n,hn,rfl,rfl,hi⟩:=hrel;by_cases hlt:n<rs.length
  ·rcases HC.out with hz | ⟨b,off,rfl,hbb,hcell⟩
   ·omega
   have d0:=Zz HF0.out (hcell n hlt);obtain ⟨ar,capr,hxe,hlr,-,-⟩:=HR.out n hlt;rw [hxe] at d0;have HI2:=q9 (show n+1<=rs.length/\rs.length - (n+1)<rs.length - n by omega);have hltz:(n:Int)<(rs.length:Int):=by omega
   clear hcell hxe;unfold maxLen at hlr;by_cases hg:60<(J7 rs n).length
   ·have g5:decide (((J7 rs n).length:Int)>60)=true:=by simp;omega
    have e:X=true:=by rw [HXX.out];simp only [Bool.or_eq_true];exact .inl (List.any_eq_true.2 ⟨_,Uq hlt,by simpa using hg⟩)
    clear hg hi;go_wp2;go_ret;exact ⟨by rw [e];rfl,HF0.out⟩
   ·have g5:decide (((J7 rs n).length:Int)>60)=false:=by simp;omega
    have HG:=q9 (qc hg hi);clear hg hi;go_wp2_with fail;go_roundw
    case rel =>
     refine ⟨n+1,HI2.out.1,by go_num,rfl,fun i hi'=>?_⟩;by_cases hin:i=n
     ·rw [hin];exact HG.out.1
     ·exact HG.out.2 i Lb
    case measure=>exact meas rfl HI2.out.2
  ·obtain rfl:n=rs.length:=by omega
   have hany:rs.any (fun r=>decide (60<r.length))=false:=by rw [List.any_eq_false];intro y hy;obtain ⟨i,hi',rfl⟩:=List.getElem_of_mem hy;have:=hi i hi';unfold J7 at this;rw [List.getD_eq_getElem?_getD,List.getElem?_eq_getElem hi'] at this;simpa using this
   have HXY:=q9 (show X=decide (Zj t c wd v rs ps≠0) by rw [HXX.out,hany];rfl);clear hi hany;go_wp2_with fail;refine (Ro.J4 t c wd v rs ps ds _ wr (H.out.up HF0.out)).mono ?_;rintro e w2 ⟨rfl,F2⟩;clear c0 c1 c2 c3 c4 c5 c6;by_cases hs:Zj t c wd v rs ps=0
   ·rw [hs];have HS:=q9 hs;clear hs;go_wp2_with fail;go_ret;exact ⟨by rw [HXY.out,HS.out];rfl,HF0.out.trans F2⟩
   ·have g6:(Zj t c wd v rs ps != 0)=true:=by simpa using hs
    have HS:=q9 hs;clear hs;generalize Zj t c wd v rs ps=sc at *;go_wp2_with fail;go_ret;exact ⟨by rw [HXY.out];simp [HS.out],HF0.out.trans F2⟩
def J5 (l:List Int) (s:St):Nat->St
 | 0=>s
 | n+1=>(J5 l s n).yl n (nth l n)
theorem Y5 (l:List Int) (s:St):∀ n,(J5 l s n).l.length=s.l.length
 | 0=>rfl
 | n+1=>by unfold J5 St.yl;simp only [x7];exact Y5 l s n
theorem Ua (l:List Int) (s:St):∀ n,(J5 l s n).n=s.n/\(J5 l s n).a=s.a
 | 0=>⟨rfl,rfl⟩
 | n+1=>Ua l s n
theorem Rv (l:List Int) (s:St):∀ n,n<=s.l.length->∀ i,nth (J5 l s n).l i=if i<n then nth l i else nth s.l i
 | 0,_,i=>by simp [J5]
 | n+1,h,i=>by
  unfold J5 St.yl;simp only;rw [Um _ (by rw [Y5];omega)];have ih:=Rv l s n Lb i;unfold nth at ih ⊢;rw [List.getD_eq_getElem?_getD];by_cases hi:i=n
  ·subst hi;rw [List.getElem?_set_self (by rw [Y5];omega),qf Lb];rfl
  ·rw [List.getElem?_set_ne (fun e=>hi e.symm),<- List.getD_eq_getElem?_getD,ih];by_cases h2:i<n
   ·rw [qf h2,qf Lb]
   ·rw [qd h2,qd Lb]
def qa0 (l:List Int):St:=⟨l,0,⟨0,0,0,0,false⟩⟩
theorem q57 (l:List Int):J5 l (St.fresh l.length) l.length=qa0 l:=by
 have h1:=Y5 l (St.fresh l.length) l.length;have h2:=Ua l (St.fresh l.length) l.length;have h3:=Rv l (St.fresh l.length) l.length (by unfold St.fresh;simp);have hl:(St.fresh l.length).l.length=l.length:=by unfold St.fresh;simp
 have e:(J5 l (St.fresh l.length) l.length).l=l:=by
  apply List.ext_getElem?;intro i;by_cases hi:i<l.length
  ·have:=h3 i;rw [qf hi] at this;unfold nth at this;rw [List.getD_eq_getElem?_getD,List.getD_eq_getElem?_getD,List.getElem?_eq_getElem Lb,List.getElem?_eq_getElem hi] at this;rw [List.getElem?_eq_getElem Lb,List.getElem?_eq_getElem hi];simpa using this
  ·rw [List.getElem?_eq_none Lb,List.getElem?_eq_none Lb]
 generalize J5 l (St.fresh l.length) l.length=u at *;obtain ⟨ul,un,ua⟩:=u;unfold St.fresh at h2;simp only at e h2;rw [e,h2.1,h2.2];rfl
def AnAt (w:World) (s:St) (p q:Nat) (u:Value) (wr:World):Prop:=∃ i,i<=s.l.length/\u = .int .i64 (i:Nat)/\Ar wr p q (J5 s.l (St.fresh s.l.length) i)
theorem arena_any (p q:Nat) (s:St) (w:World) (h:Rar w p q s) :
  Calls Tryz.prog 8 #[.pointer (some ⟨p,0,none⟩)] w (Made w (qa0 s.l)):=by
 obtain ⟨cap,hcap,r0,-,-,-,-,-,-,rq⟩:=Xj h;have hlen:1<=s.l.length/\s.l.length<=20000:=⟨h.lo,h.hi⟩;go_enter Tryz.func8,Tryz.ntmps8;go_wp2_with fail;refine (Ar.U3 s.l.length s.l.length hlen.1 hlen.2 Lb w).mono ?_;rintro e w1 ⟨pa,qa,rfl,hpa,hqa,A,F⟩;have HP:=q9 (qc hpa hqa);have HH:=q9 (h.kept F Lc Lc);have HA:=q9 A;have HF:=q9 F;have hpl:=h.lt;clear h A F hpa hqa r0 rq;go_wp2_with fail;go_loopw [4] (fun u wr=>AnAt w1 s pa qa u wr/\Rar wr p q s/\Fr [] w wr) (fun u _=>s.l.length - (intOf u).toNat);case atStart=>exact ⟨⟨0,Nat.zero_le _,rfl,HA.out⟩,HH.out,HF.out⟩
 case round =>
  obtain ⟨⟨i,hi,rfl,A⟩,R,G⟩:=hrel;obtain ⟨cap2,hcap2,r0,-,-,-,-,-,-,rq⟩:=Xj R;by_cases hlt:i<s.l.length
  ·have d0:=rq i hlt;have HI2:=q9 (show i+1<=s.l.length/\s.l.length - (i+1)<s.l.length - i by omega);have hltz:(i:Int)<(s.l.length:Int):=by omega
   have HG:=q9 (qc R G);clear rq R G hlt;go_wp2_with fail;refine (Ar.Qc wr pa qa _ i (nth s.l i) A).mono ?_;rintro e w3 ⟨rfl,A3,F3⟩;have h1:=HP.out;have HA3:=q9 (qc A3 (qc (HG.out.1.kept F3 Ll Ll) (HG.out.2.own F3 Ll)));clear A A3 F3 r0 d0;go_wp2_with fail;go_roundw;case rel=>exact ⟨⟨i+1,HI2.out.1,by simp,HA3.out.1⟩,HA3.out.2.1,HA3.out.2.2⟩
   case measure=>exact meas rfl HI2.out.2
  ·obtain rfl:i=s.l.length:=by omega
   have HA2:=q9 (qc A G);clear rq A G R;go_wp2_with fail;go_ret;have hA:=HA2.out.1;rw [q57] at hA;exact ⟨pa,qa,rfl,HP.out.1,HP.out.2,hA,HA2.out.2⟩
theorem q6a {xs:List Int} {i:Nat} (h:i<xs.length):(xs.flatMap fI)[i]? = some (.int .i64 (nth xs i)):=by have e:=yj.at (xs:=xs) (i:=i) (j:=0) (List.getElem?_eq_getElem h) Lg;rw [Nat.mul_one,Nat.add_zero] at e;rw [e];unfold nth;rw [List.getD_eq_getElem?_getD,List.getElem?_eq_getElem h];rfl
theorem row_int {w:World} {B n c:Nat} {a:Option Addr} {xs:List Int} (h:w.ownsRow B 3 1 (.slice a n c) n (xs.flatMap fI)) (hn:n=xs.length) (h1:1<=n):∃ g cur,a=some ⟨g,0,none⟩/\B<=g/\g<w.heap.size/\w.heap[g]? = some (.cells cur 3 (0,0))/\cur.size=c/\n<=c/\c<=maxLen/\∀ i,i<n->cur[i]? = some (.int .i64 (nth xs i)):=by
 obtain ⟨e1,h2⟩:=h;rcases h2 with ⟨e,-⟩ | ⟨g,cap,cur,e,hB,hh,hc1,hc2,hs,ht⟩
 ·simp only [Value.slice.injEq] at e;omega
 ·simp only [Value.slice.injEq] at e;obtain ⟨rfl,-,rfl⟩:=e;refine ⟨g,cur,rfl,hB,(Array.getElem?_eq_some_iff.1 hh).1,hh,by simpa using hs,hc1,hc2,fun i hi=>?_⟩;have e2:=q6a (xs:=xs) (i:=i) Lb;rw [<- ht,List.getElem?_take_of_lt Lb] at e2;simpa using e2
end Go.Proofs.YtleclbldlladmaaGreat.Wd
