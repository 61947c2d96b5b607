/- Parts. -/
import Derived.Test.YtleclbldlladmaaGreatVaa
import Derived.Test.YtleclbldlladmaaGreatVab
import Derived.Lib.MinMax
set_option linter.unusedVariables false
set_option linter.unusedSimpArgs false
set_option maxRecDepth 100000
set_option maxHeartbeats 12800000
namespace Go.Proofs.YtleclbldlladmaaGreat.Mx
open Go.RowKit Ar
theorem q2e {w:World} {B n:Nat} {E:TypeId} {v:Value} {xs:List Value} (h:w.ownsRow B E 1 v (n+1) xs):∃ g c,v = .slice (some ⟨g,0,none⟩) (n+1) c/\n+1<=c/\c<=maxLen/\B<=g/\g<w.heap.size/\(∀ (j:Nat) (x:Value),xs[j]? = some x->w.cell? ⟨g,j,none⟩=some x)/\∀ i,w.frozen? ⟨g,i,none⟩=false:=by
 have hc:=Qn h;obtain ⟨h1,h2⟩:=h;rcases h2 with ⟨-,e0⟩ | ⟨g,cap,cur,rfl,hB,hh,hc1,hc2,-⟩
 ·omega
 ·obtain ⟨a,c,e,-,h3⟩:=hc;simp only [Value.slice.injEq] at e;obtain ⟨rfl,-,rfl⟩:=e;rcases h3 with h0 | ⟨g',e',hlt,hall⟩
  ·omega
  simp only [Option.some.injEq,Addr.mk.injEq] at e';obtain ⟨rfl,-⟩:=e';exact ⟨g,_,rfl,hc1,hc2,hB,hlt,hall,fun i=>frozen_of_row _ _ _ _ _ hh⟩
theorem q6q {w:World} {B n g c:Nat} {E:TypeId} {xs:List Value} (h:w.ownsRow B E 1 (.slice (some ⟨g,0,none⟩) n c) n xs) (i:Nat) (u:Value):(w.setCell ⟨g,i,none⟩ u).ownsRow B E 1 (.slice (some ⟨g,0,none⟩) n c) n (xs.set i u):=by
 obtain ⟨h1,h2⟩:=h;refine ⟨by simpa using h1,?_⟩;rcases h2 with ⟨e,-⟩ | ⟨g',cap,cur,e,hB,hh,hc1,hc2,hs,ht⟩
 ·simp at e
 ·simp only [Value.slice.injEq,Option.some.injEq,Addr.mk.injEq] at e;obtain ⟨⟨rfl,-⟩,-,rfl⟩:=e;refine .inr ⟨g,c,_,rfl,hB,heap_setCell_same w g i cur E u hh,hc1,hc2,by simpa using hs,?_⟩;rw [Array.toList_setIfInBounds,List.take_set,ht]
theorem qa1 {w:World} {B n g c:Nat} {E:TypeId} {xs:List Value} (h:w.ownsRow B E 1 (.slice (some ⟨g,0,none⟩) n c) n xs):∀ i,w.frozen? ⟨g,i,none⟩=false:=by
 rcases h.2 with ⟨e,-⟩ | ⟨g',cap,cur,e,-,hh,-⟩
 ·simp at e
 ·simp only [Value.slice.injEq,Option.some.injEq,Addr.mk.injEq] at e;obtain ⟨⟨rfl,-⟩,-,-⟩:=e;exact fun i=>frozen_of_row _ _ _ _ _ hh
theorem q5j {w:World} {B sz n n':Nat} {E:TypeId} {v:Value} {xs:List Value} (e:n'=n) (h:w.ownsRow B E sz v n xs):w.ownsRow B E sz v n' xs:=e ▸ h
theorem Rq (ss:List Sv) (i:Nat) (s:Sv):(ss.flatMap fS).set i s.v=(ss.set i s).flatMap fS:=by
 have e:∀ l:List Sv,l.flatMap fS=l.map Sv.v:=fun l=>by induction l with
  | nil=>rfl
  | cons x l ih=>rw [List.flatMap_cons,ih];rfl
 rw [e,e,List.map_set]
theorem q29 {ss:List Sv} {i:Nat} {s:Sv} (h:ss[i]? = some s):(ss.flatMap fS)[i]? = some s.v:=by have:=Tc.at (j:=0) h Lg;rw [Nat.mul_one,Nat.add_zero] at this;exact this
def Gr (w:World) (B:Nat) (ss:List Sv) (gs:List (List It)):Prop:=ss.length=gs.length/\∀ (i:Nat) (s:Sv) (g:List It),ss[i]? = some s->gs[i]? = some g->w.ownsRow B 148 3 s.v g.length (g.flatMap fT)
theorem Yv {w:World} {B B' sz sz' n n':Nat} {E E':TypeId} {v v':Value} {xs xs':List Value} (h:w.ownsRow B E sz v n xs) (h':w.ownsRow B' E' sz' v' n' xs') (hE:E≠E'):∀ g,g∈v'.ownBlock.toList->g∉v.ownBlock.toList:=by
 intro g hg;rcases h'.2 with ⟨rfl,-⟩ | ⟨g',cap,cur,rfl,-,hh,-⟩
 ·simp [Value.ownBlock] at hg
 ·simp [Value.ownBlock] at hg;subst hg;exact je h hh hE
theorem Gr.gs {w:World} {B:Nat} {ss:List Sv} {gs:List (List It)} (h:Gr w B ss gs):Gs w ss gs:=⟨h.1,fun i s g e1 e2=>Sq.own (h.2 i s g e1 e2)⟩
theorem Gr.up {w w':World} {B:Nat} {ss:List Sv} {gs:List (List It)} (h:Gr w B ss gs) (k:Fr [] w w'):Gr w' B ss gs:=⟨h.1,fun i s g e1 e2=>qo (h.2 i s g e1 e2) k⟩
theorem Gr.fr {w w':World} {B B' n:Nat} {u:Value} {xs:List Value} {ss:List Sv} {gs:List (List It)} (h:Gr w B ss gs) (hu:w.ownsRow B' 129 1 u n xs) (k:Fr u.ownBlock.toList w w'):Gr w' B ss gs :=
 ⟨h.1,fun i s g e1 e2=>Q4 (h.2 i s g e1 e2) k fun b hb=>Yv hu (h.2 i s g e1 e2) Lg b (by rw [hb];simp)⟩
theorem Gr.snoc {w:World} {B:Nat} {ss:List Sv} {gs:List (List It)} (h:Gr w B ss gs) {s:Sv} {g:List It} (hs:w.ownsRow B 148 3 s.v g.length (g.flatMap fT)):Gr w B (ss++[s]) (gs++[g]):=by
 refine ⟨by simp [h.1],fun i t k e1 e2=>?_⟩;by_cases hi:i<ss.length
 ·rw [List.getElem?_append_left hi] at e1;rw [List.getElem?_append_left Ow] at e2;exact h.2 i t k e1 e2
 ·rw [List.getElem?_append_right Lb] at e1;rw [List.getElem?_append_right (by rw [<- h.1];omega),<- h.1] at e2;have h0:i - ss.length=0:=by have:=(List.getElem?_eq_some_iff.1 e1).1;simp at this;omega
  rw [h0] at e1 e2;simp at e1 e2;subst e1 e2;exact hs
theorem Gr.set {w:World} {B:Nat} {ss:List Sv} {gs:List (List It)} (h:Gr w B ss gs) {s:Sv} {g:List It} (hs:w.ownsRow B 148 3 s.v g.length (g.flatMap fT)) (n:Nat):Gr w B (ss.set n s) (gs.set n g):=by
 refine ⟨by simp [h.1],fun i t k e1 e2=>?_⟩;by_cases hi:i=n
 ·subst hi;have h1:=(List.getElem?_eq_some_iff.1 e1).1;have h2:=(List.getElem?_eq_some_iff.1 e2).1;rw [List.length_set] at h1 h2;rw [List.getElem?_set_self h1] at e1;rw [List.getElem?_set_self h2] at e2;cases e1;cases e2;exact hs
 ·rw [List.getElem?_set_ne (fun e=>hi e.symm)] at e1 e2;exact h.2 i t k e1 e2
theorem Gr.one {w:World} {B:Nat} {ss:List Sv} {gs:List (List It)} (h:Gr w B ss gs) {i:Nat} {g:List It} (hi:gs[i]? = some g):∃ s,ss[i]? = some s/\s.n=g.length/\w.ownsRow B 148 3 s.v g.length (g.flatMap fT):=by obtain ⟨s,h1,h2,-⟩:=h.gs.one hi;exact ⟨s,h1,h2,h.2 i s g h1 hi⟩
theorem qd9 (p:It->Bool):∀ (d:Nat) (l:List It) (i k:Nat),k=i+d->k<=l.length->(∀ (j:Nat),i<=j->j<k->∃ y,l[j]? = some y/\p y=true)->(∀ y,l[k]? = some y->p y=false)->(l.drop i).takeWhile p=(l.drop i).take d/\(l.drop i).dropWhile p=l.drop k:=by
 intro d;induction d with
 | zero =>
  intro l i k e hk hall hend;obtain rfl:k=i:=by omega
  by_cases hi:k<l.length
  ·rw [List.drop_eq_getElem_cons hi];have:=hend _ (List.getElem?_eq_getElem hi);exact ⟨by rw [List.takeWhile_cons,qd (by simp [this])];rfl,by rw [List.dropWhile_cons,qd (by simp [this])]⟩
  ·rw [List.drop_eq_nil_of_le Lb];exact ⟨rfl,rfl⟩
 | succ d ih =>
  intro l i k e hk hall hend;obtain ⟨y,hy,hp⟩:=hall i (Nat.le_refl _) Lb;obtain ⟨hi,rfl⟩:=List.getElem?_eq_some_iff.1 hy;have h:=ih l (i+1) k Lb hk (fun j h1 h2=>hall j Lb h2) hend;rw [List.drop_eq_getElem_cons hi];exact ⟨by rw [List.takeWhile_cons,qf hp,h.1];rfl,by rw [List.dropWhile_cons,qf hp,h.2]⟩
theorem q0u {half:Int} {m i k:Nat} {l:List It} {x:It} {out:List (List It)} {cur:List It} (hx:l[i]? = some x) (hk:i<k) (hkl:k<=l.length) (hall:∀ (j:Nat),i<=j->j<k->∃ y,l[j]? = some y/\y.k=x.k) (hend:∀ y,l[k]? = some y->y.k≠x.k) :
  jy half (m+1) (l.drop i) out cur=if cur≠[]/\half<(cur.length:Int)+(k - i:Nat) then jy half m (l.drop k) (out++[cur]) ((l.drop i).take (k - i)) else jy half m (l.drop k) out (cur++(l.drop i).take (k - i)):=by
 have h:=qd9 (fun y=>y.k == x.k) (k - i) l i k Lb hkl (fun j h1 h2=>by obtain ⟨y,h3,h4⟩:=hall j h1 h2;exact ⟨y,h3,by simpa using h4⟩) (fun y hy=>by simpa using hend y hy);have hlen:((l.drop i).take (k - i)).length=k - i:=by rw [List.length_take,List.length_drop];omega
 obtain ⟨hi,rfl⟩:=List.getElem?_eq_some_iff.1 hx;rw [List.drop_eq_getElem_cons hi] at h hlen ⊢;rw [List.takeWhile_cons,qf Lc,List.dropWhile_cons,qf Lc] at h;rw [<- h.1] at hlen ⊢;rw [<- h.2];show (if cur≠[]/\half<(cur.length:Int)+_ then _ else _)=_;rw [hlen]
theorem q3f (half:Int) (m:Nat) (out:List (List It)) (cur:List It):jy half m [] out cur=out++[cur]:=by cases m <;> rfl
def SplAt (w:World) (half:Int) (l:List It) (R:List (List It)) (u x:Value) (wr:World):Prop:=∃ (i m d:Nat) (done:List (List It)) (cur:List It) (T:List Sv),i<=l.length/\x = .int .i64 (i:Nat)/\l.length<=m+i/\jy half m (l.drop i) done cur=R/\d<=i/\cur.length<=i/\done.length=d/\T.length=d+1 /\
 wr.ownsRow w.heap.size 129 1 u (d+1) (T.flatMap fS)/\Gr wr w.heap.size T (done++[cur])/\Fr [] w wr
def RunAt (wr:World) (l:List It) (i:Nat) (x:It) (u:Value) (w':World):Prop:=∃ k,i<=k/\k<=l.length/\u = .int .i64 (k:Nat)/\Fr [] wr w'/\∀ (j:Nat),i<=j->j<k->∃ y,l[j]? = some y/\y.k=x.k
theorem q5k (l:List It) (cells:Int) (v:Value) (w:World) (hl:l.length<=1000) (hSq:Sq fT w v l) :
  Calls Tryz.prog 143 #[v,.int .i64 cells] w fun e w'=>(∃ u ss,e = .returned u/\ss.length=(xy l cells).length/\w'.ownsRow w.heap.size 129 1 u ss.length (ss.flatMap fS)/\Gr w' w.heap.size ss (xy l cells))/\Fr [] w w':=by
 unfold xy;obtain ⟨av,cv,rfl,hcv,hmv,-⟩:=id hSq;generalize hR:jy (Xy cells) l.length l [] []=R;have HR0:=q9 hR;clear hR;go_enter Tryz.func143,Tryz.ntmps143;have hhf:1<=Xy cells/\Xy cells<=8:=by unfold Xy;omega
 have ehf:max 2 (min cells 16) / 2=Xy cells:=rfl;have EHF:=q9 ehf;clear ehf;have F12:=(Fr.refl [] w).alloc (.cells #[.slice none 0 0] 129);have B12:=Go.heap_alloc_new w (.cells #[.slice none 0 0] 129);go_wp2_with fail;have hEH:Xy cells=max 2 (min cells 16) / 2:=rfl;rw [hEH] at HR0 hhf;generalize max 2 (min cells 16) / 2=hfl at *;clear EHF hEH;go_loopw [6,7] (SplAt w hfl l R) (fun _ x _=>l.length - (intOf x).toNat);case atStart=>exact ⟨0,l.length,0,[],[],[⟨none,0,0⟩],by omega,rfl,by omega,HR0.out,by omega,by simp,rfl,rfl,⟨rfl,.inr ⟨w.heap.size,1,#[.slice none 0 0],rfl,Nat.le_refl _,B12,by omega,by simp [maxLen],rfl,rfl⟩⟩,⟨rfl,fun i s g e1 e2=>by cases i with | zero=>(simp at e1 e2;subst e1 e2;exact ⟨rfl,.inl ⟨rfl,rfl⟩⟩) | succ i=>simp at e1⟩,F12⟩
 case round =>
  obtain ⟨i,m,d,done,cur,T,hi,rfl,hm,hRR,hdi,hci,hdl,hTl,hr,hG,F⟩:=hrel;obtain ⟨g,c,rfl,hgc,hcm,hBg,hgs,hcell,-⟩:=q2e hr;by_cases hlt:i<l.length
  ·obtain ⟨x,hx⟩:∃ x,l[i]? = some x:=⟨l[i],List.getElem?_eq_getElem hlt⟩;obtain ⟨m,rfl⟩:∃ m',m=m'+1:=⟨m - 1,by omega⟩;have hzf:=fun (w':World) (f:Fr [] wr w') (w'':World) (f':Fr [] w' w'')=>(qa1 (qo hr (f.trans f')))
   obtain ⟨s,hs1,hs2,hs3⟩:=hG.one (i:=d) (g:=cur) (by rw [<- hdl];simp);have hcs:=hcell d s.v (q29 hs1);unfold Sv.v at hcs;rw [hs2] at hcs;have hh:=hSq.up F;obtain ⟨gl,ol,rfl,x0,-,-⟩:=xk hh hx;have HSP:=q9 (fun k=>@q0u hfl m i k l x done cur hx);have HRR:=q9 hRR;have HTl:=q9 hTl;have HDl:=q9 hdl;have HS2:=q9 hs2;clear hRR hTl hdl hs2 B12;go_wp2_with fail;go_loopw [8] (RunAt wr l i x) (fun u _=>l.length - (intOf u).toNat);case atStart=>exact ⟨i,by omega,by omega,rfl,Fr.refl _ _,fun j h1 h2=>by omega⟩
   case round =>
    obtain ⟨k,hk1,hk2,rfl,F2,hall⟩:=hrel;have hx0:=qb (F2.cell x0 Lc);by_cases hkl:k<l.length
    focus
     obtain ⟨y,hy⟩:∃ y,l[k]? = some y:=⟨l[k],List.getElem?_eq_getElem hkl⟩
     obtain ⟨gl',ol',egl,y0,-,-⟩:=xk (hh.up F2) hy
     simp only [Option.some.injEq,Addr.mk.injEq] at egl
     obtain ⟨rfl,rfl,-⟩:=egl
     have hy0:=qb y0
     by_cases hyx:y.k=x.k
     ·have g1:(y.k == x.k)=true:=by simpa using hyx
      have HYX:=q9 hyx
      clear hyx
      go_wp2_with fail
      refine wiq ?_
      repeat (go_big_quiet_step (fail))
      refine wpQuiet_nil ?_
      intro w7 F7
      go_wp2_with fail
      go_roundw
      case rel=>exact ⟨k+1,by omega,by omega,by go_num,F2.trans F7,fun j h1 h2=>by
       by_cases e:j=k
       ·exact ⟨y,by rw [e];exact hy,HYX.out⟩
       ·exact hall j h1 Lb⟩
      case measure=>simp [intOf];omega
     have hik:i<k:=by
      rcases Nat.lt_or_ge i k with h1 | h1
      ·exact h1
      ·obtain rfl:i=k:=by omega
       rw [hx] at hy;cases hy;exact absurd rfl hyx
     have g1:(y.k == x.k)=false:=by simpa using hyx
     have HST:=q9 (HSP.out k hik hk2 hall (fun z hz=>by rw [hy] at hz;cases hz;exact hyx))
     clear hyx
     go_wp2_with fail
     refine wiq ?_
     repeat (go_big_quiet_step (fail))
     refine wpQuiet_nil ?_
     intro w7 F7
     have F3:=F2.trans F7
     clear F2 F7 hx0 hy0 y0
    rotate_left
    focus
     have hik:i<k:=by omega
     have HST:=q9 (HSP.out k hik hk2 hall (fun z hz=>by rw [List.getElem?_eq_none Lb] at hz;cases hz))
     go_wp2_with fail
     refine wiq ?_
     repeat (go_big_quiet_step (fail))
     refine wpQuiet_nil ?_
     intro w7 F7
     have F3:=F2.trans F7
     clear F2 F7 hx0
    rotate_left
    all_goals
     have FW:=q9 (F.trans F3)
     have FWW:=FW
     have c7:=F3.cell hcs Lc
     have HZ:=q9 (show ∀ w',Fr [] w7 w'->∀ j,w'.frozen? ⟨g,j,none⟩=false from hzf w7 F3)
     by_cases hA:cur≠[]/\(hfl:Int)<(cur.length:Int)+(k - i:Nat)
     ·have e0:cur.length≠0:=fun e=>hA.1 (List.eq_nil_of_length_eq_zero e)
      have e1:decide ((cur.length:Int)>0)=true:=decide_eq_true Lb
      have hA2:=hA.2
      have e2:decide ((cur.length:Int)+(k:Nat) - (i:Nat)>(hfl:Int))=true:=decide_eq_true Lb
      clear hA2
      have HRX:=q9 ((qf hA).symm.trans (HST.out.symm.trans HRR.out))
      have F12:=(Fr.refl [] w7).alloc (.cells #[.slice none 0 0] 129)
      have B12:=Go.heap_alloc_new w7 (.cells #[.slice none 0 0] 129)
      have r12:=qo (qo hr F3) F12
      have hGA:=q9 ((hG.up F3).up F12)
      have HFA:=q9 (FW.out.trans F12)
      have HZN:=q9 (show w7.heap.size<=_ from F12.size)
      have r12':=q5j HTl.out r12
      have HRD:=q9 r12
      have HCU:=q9 (show cur.length<=1000/\T.length<=1001 from ⟨by omega,by have:=HTl.out;omega⟩)
      have HE0:=q9 e0
      clear F12 r12 hA e0
      go_wp2_with (at_builtin;refine qq Tc rfl _ _ 164 rfl Tryz.underlying164 svI rfl (B:=w.heap.size) _ T rfl r12' _ [⟨none,0,0⟩] rfl (Sq.block B12 rfl rfl (Nat.le_refl _) Lm) (by have:=HCU.out;simp;omega) Lg HFA.out.size ?_;intro a31 c31 w31 r31 f31)
      all_goals try (exfalso;have:=HE0.out;omega)
      have f32:Fr [g] _ w31:=f31
      have hGW:=(hGA.out.fr HRD.out f32).snoc (s:=⟨none,0,0⟩) (g:=[]) ⟨rfl,.inl ⟨rfl,rfl⟩⟩
      have FWW:=q9 (HFA.out.own f32 O5)
      have FW:=FWW
      have e31:(T++[(⟨none,0,0⟩:Sv)]).length=d+1+1:=by simp;exact HTl.out
      rw [e31] at r31
      obtain ⟨g2,c2,e2,hgc2,hcm2,hBg2,hgs2,hcell2,-⟩:=q2e r31
      simp only [Value.slice.injEq,true_and] at e2
      obtain ⟨rfl,rfl⟩:=e2
      rw [HTl.out]
      have hrW:=r31
      have HZ:=q9 (show ∀ w',Fr [] w31 w'->∀ j,w'.frozen? ⟨g2,j,none⟩=false from fun w' f=>qa1 (qo r31 f))
      have hcW:=hcell2 (d+1) (Sv.v ⟨none,0,0⟩) (q29 (by rw [<- HTl.out];simp))
      have HDN:=q9 (show (done++[cur]).length=d+1 from by simp;exact HDl.out)
      have HTN:=q9 e31
      have hsn:(⟨none,0,0⟩:Sv).n=([]:List It).length:=rfl
      have hsW:w31.ownsRow w.heap.size 148 3 (Sv.v ⟨none,0,0⟩) ([]:List It).length (([]:List It).flatMap fT):=⟨rfl,.inl ⟨rfl,rfl⟩⟩
      unfold Sv.v at hcW
      clear f31 f32 r31 e31 c7 B12 r12' hcell2
      have hlr:((l.drop i).take (k - i)).length=k - i:=by rw [List.length_take,List.length_drop];omega
      have SR:=q9 (show Sq fT w31 (.slice (some ⟨gl,ol+i * 3,none⟩) (k - i) (cv - i)) ((l.drop i).take (k - i)) from Sq.take zh (Sq.drop zh (hSq.up FW.out) i Lb) (k - i) (by rw [List.length_drop];omega))
      have SC:=q9 (show Sq fT w31 (.slice none ([]:List It).length 0) ([]:List It) from by have:=Sq.own (f:=fT) hsW;unfold Sv.v at this;rw [hsn] at this;exact this)
      have HLR:=q9 hlr
      generalize (l.drop i).take (k - i)=run at SR HLR HRX
      clear hlr hsn hsW
      have HC:=q9 hcW
      have HRW:=q9 hrW
      have HGW:=q9 hGW
      clear hcW hrW hGW
      refine qp Le ?_
      refine za [] w31 #[true,true,true,true,true,true,true,true,true,true,true,true,false,false] 12 2 rfl ?_
      refine lpq [true,true,true,true,true,true,false,true,true,true,true,false,false,false] 2 ((Fr.refl _ _).drew) ?_
      apply qg
      refine ⟨fun wf Ff=>?_,?_⟩
      ·have j0:=qb (Ff.cell HC.out Lc)
       simp only [sel]
       repeat (go_big_quiet_step (fail))
       exact wpQuiet_nil rfl
      refine loq 6 (fun w10 F10=>?_)
      have G:=((Fr.refl [] w31).drew).trans F10
      clear F10
      go_wp2_with (at_builtin;refine qq zh rfl _ _ 129 rfl Tryz.underlying129 itI rfl (B:=w31.heap.size) (.slice none 0 0) [] rfl ⟨rfl,.inl ⟨rfl,rfl⟩⟩ _ ([]:List It) rfl (SC.out.up G) Oa Lg G.size ?_;intro a21 c21 w21 r21 f21)
      rw [List.nil_append] at r21
      replace G:=G.trans f21
      clear f21
      refine ql ⟨G,?_⟩
      refine loq 11 (fun w13 F13=>?_)
      have r22:=qo r21 F13
      replace G:=G.trans F13
      clear r21 F13
      try rw [List.nil_append]
      go_wp2_with (at_builtin;refine qq zh rfl _ _ 129 rfl Tryz.underlying129 itI rfl (B:=w31.heap.size) _ ([]:List It) rfl r22 _ run rfl (SR.out.up G) (by have:=HLR.out;simp <;> omega) Lg G.size ?_;intro a23 c23 w23 r23 f23;generalize hT3:([]:List It)++run=T3 at r23 ⊢)
      replace G:=G.own f23 (z8 r22)
      clear f23 r22
      refine ql ⟨G,?_⟩
      refine qy (k:=12) rfl Le (fun w15 F15=>?_)
      have r26:=qo r23 F15
      replace G:=G.trans F15
      clear r23 F15
      have hcz:=G.cell HC.out Lc
      have hfz:=HZ.out w15 G
      have hr15:=qo HRW.out G
      have hr16:=q6q hr15 (d+1) (.slice a23 T3.length c23)
      have SF:Fr [g2] w15 (w15.setCell ⟨g2,(d+1),none⟩ (.slice a23 T3.length c23)):=Fr.setCell _ Lc
      have hg16:=((HGW.out.up G).fr hr15 (by simpa [Value.ownBlock] using SF)).set (s:=⟨a23,T3.length,c23⟩) (g:=T3) (kw (Q4 r26 SF (fun b hb hi=>Yv hr15 r26 Lg b (by have hb':(Value.slice a23 T3.length c23).ownBlock=some b:=hb;rw [hb'];simp) O3)) (FWW.out.size)) (d+1)
      have HR16:=q9 (show World.ownsRow _ w.heap.size 129 1 _ ((d+1)+1) (((T++[(⟨none,0,0⟩:Sv)]).set (d+1) ⟨a23,T3.length,c23⟩).flatMap fS) from by rw [<- Rq];exact hr16)
      have HG16:=q9 hg16
      have HF16:=q9 ((FWW.out.trans G).own SF (by intro b hb;simp at hb;subst hb;exact hBg2))
      have HT3:=q9 hT3
      clear hr15 hr16 SF hg16 r26 hT3 G
      go_wp2_with fail
      go_roundw
      case rel=>exact ⟨k,m,(d+1),(done++[cur]),T3,(T++[(⟨none,0,0⟩:Sv)]).set (d+1) ⟨a23,T3.length,c23⟩,by omega,by go_num,by omega,by rw [<- HT3.out];exact HRX.out,by omega,by rw [<- HT3.out];have:=HLR.out;simp;omega,HDN.out,by rw [List.length_set];exact HTN.out,HR16.out,by have h:=HG16.out;rw [show ((done++[cur])++[([]:List It)]).set (d+1) T3=(done++[cur])++[T3] by rw [<- HDN.out,List.set_append_right _ _ (Nat.le_refl _),Nat.sub_self];rfl] at h;exact h,HF16.out⟩
      case measure=>simp [intOf];omega
     have HRX:=q9 ((qd hA).symm.trans (HST.out.symm.trans HRR.out))
     by_cases e0:cur.length=0
     focus
      have e1:decide ((cur.length:Int)>0)=false:=decide_eq_false Lb
      have e1a:decide (0<cur.length)=false:=decide_eq_false Lb
      have e1b:decide ((0:Int)<(cur.length:Int))=false:=decide_eq_false Lb
     rotate_left
     focus
      have e1:decide ((cur.length:Int)>0)=true:=decide_eq_true Lb
      have e2:decide ((cur.length:Int)+(k:Nat) - (i:Nat)>(hfl:Int))=false:=decide_eq_false (fun e=>hA ⟨fun e3=>e0 (by rw [e3];rfl),by omega⟩)
     rotate_left
     all_goals
      have hrW:=qo hr F3
      have hGW:=hG.up F3
      have hsW:=qo hs3 F3
      have hsn:=HS2.out
      have hcW:=c7
      have HDN:=HDl
      have HTN:=HTl
      have hk16:cur.length<=1000:=by omega
      have HE0:=q9 e0
      clear hA e0
      go_wp2_with fail
      all_goals try (exfalso;have:=HE0.out;omega)
      have hlr:((l.drop i).take (k - i)).length=k - i:=by rw [List.length_take,List.length_drop];omega
      have SR:=q9 (show Sq fT w7 (.slice (some ⟨gl,ol+i * 3,none⟩) (k - i) (cv - i)) ((l.drop i).take (k - i)) from Sq.take zh (Sq.drop zh (hSq.up FW.out) i Lb) (k - i) (by rw [List.length_drop];omega))
      have SC:=q9 (show Sq fT w7 (.slice s.a cur.length s.c) cur from by have:=Sq.own (f:=fT) hsW;unfold Sv.v at this;rw [hsn] at this;exact this)
      have HLR:=q9 hlr
      generalize (l.drop i).take (k - i)=run at SR HLR HRX
      clear hlr hsn hsW
      have HC:=q9 hcW
      have HRW:=q9 hrW
      have HGW:=q9 hGW
      clear hcW hrW hGW
      refine qp Le ?_
      refine za [] w7 #[true,true,true,true,true,true,true,true,true,true,true,true,false,false] 12 2 rfl ?_
      refine lpq [true,true,true,true,true,true,false,true,true,true,true,false,false,false] 2 ((Fr.refl _ _).drew) ?_
      apply qg
      refine ⟨fun wf Ff=>?_,?_⟩
      ·have j0:=qb (Ff.cell HC.out Lc)
       simp only [sel]
       repeat (go_big_quiet_step (fail))
       exact wpQuiet_nil rfl
      refine loq 6 (fun w10 F10=>?_)
      have G:=((Fr.refl [] w7).drew).trans F10
      clear F10
      go_wp2_with (at_builtin;refine qq zh rfl _ _ 129 rfl Tryz.underlying129 itI rfl (B:=w7.heap.size) (.slice none 0 0) [] rfl ⟨rfl,.inl ⟨rfl,rfl⟩⟩ _ cur rfl (SC.out.up G) Oa Lg G.size ?_;intro a21 c21 w21 r21 f21)
      rw [List.nil_append] at r21
      replace G:=G.trans f21
      clear f21
      refine ql ⟨G,?_⟩
      refine loq 11 (fun w13 F13=>?_)
      have r22:=qo r21 F13
      replace G:=G.trans F13
      clear r21 F13
      try rw [List.nil_append]
      go_wp2_with (at_builtin;refine qq zh rfl _ _ 129 rfl Tryz.underlying129 itI rfl (B:=w7.heap.size) _ cur rfl r22 _ run rfl (SR.out.up G) (by have:=HLR.out;simp <;> omega) Lg G.size ?_;intro a23 c23 w23 r23 f23;generalize hT3:cur++run=T3 at r23 ⊢)
      replace G:=G.own f23 (z8 r22)
      clear f23 r22
      refine ql ⟨G,?_⟩
      refine qy (k:=12) rfl Le (fun w15 F15=>?_)
      have r26:=qo r23 F15
      replace G:=G.trans F15
      clear r23 F15
      have hcz:=G.cell HC.out Lc
      have hfz:=HZ.out w15 G
      have hr15:=qo HRW.out G
      have hr16:=q6q hr15 d (.slice a23 T3.length c23)
      have SF:Fr [g] w15 (w15.setCell ⟨g,d,none⟩ (.slice a23 T3.length c23)):=Fr.setCell _ Lc
      have hg16:=((HGW.out.up G).fr hr15 (by simpa [Value.ownBlock] using SF)).set (s:=⟨a23,T3.length,c23⟩) (g:=T3) (kw (Q4 r26 SF (fun b hb hi=>Yv hr15 r26 Lg b (by have hb':(Value.slice a23 T3.length c23).ownBlock=some b:=hb;rw [hb'];simp) O3)) (FWW.out.size)) d
      have HR16:=q9 (show World.ownsRow _ w.heap.size 129 1 _ (d+1) ((T.set d ⟨a23,T3.length,c23⟩).flatMap fS) from by rw [<- Rq];exact hr16)
      have HG16:=q9 hg16
      have HF16:=q9 ((FWW.out.trans G).own SF O5)
      have HT3:=q9 hT3
      clear hr15 hr16 SF hg16 r26 hT3 G
      go_wp2_with fail
      go_roundw
      case rel=>exact ⟨k,m,d,done,T3,T.set d ⟨a23,T3.length,c23⟩,by omega,by go_num,by omega,by rw [<- HT3.out];exact HRX.out,by omega,by rw [<- HT3.out];have:=HLR.out;simp;omega,HDN.out,by rw [List.length_set];exact HTN.out,HR16.out,by have h:=HG16.out;rw [show (done++[cur]).set d T3=done++[T3] by rw [<- HDN.out,List.set_append_right _ _ (Nat.le_refl _),Nat.sub_self];rfl] at h;exact h,HF16.out⟩
      case measure=>simp [intOf];omega
  ·obtain rfl:i=l.length:=by omega
   rw [List.drop_length] at hRR;have hRe:R=done++[cur]:=by rw [<- hRR];exact q3f _ _ _ _
   have HL:=q9 (show T.length=R.length from by rw [hRe,hTl,List.length_append,hdl];rfl);have HR:=q9 (q5j hTl hr);have HG:=q9 (show Gr wr w.heap.size T R from by rw [hRe];exact hG);clear hRe hRR hTl hdl hr hG;go_wp2_with fail;go_ret;exact ⟨⟨_,T,rfl,HL.out,HR.out,HG.out⟩,F⟩
end Go.Proofs.YtleclbldlladmaaGreat.Mx
