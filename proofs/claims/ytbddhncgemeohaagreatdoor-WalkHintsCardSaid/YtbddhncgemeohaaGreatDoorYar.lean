/- Parts. -/
import Derived.Test.YtbddhncgemeohaaGreatDoorYae
import Derived.Test.YtbddhncgemeohaaGreatDoorYah
import Derived.Test.YtbddhncgemeohaaGreatDoorYak
import Derived.Test.YtbddhncgemeohaaGreatDoorYaq
import Derived.Lib.MinMax
set_option linter.unusedVariables false
set_option linter.unusedSimpArgs false
set_option maxRecDepth 100000
set_option maxHeartbeats 12800000
namespace Go.Proofs.YtbddhncgemeohaaGreatDoor.Mx
open Go.RowKit Ar
theorem q2g {w:World} {B n:Nat} {E:TypeId} {v:Value} {xs:List Value} (h:w.ownsRow B E 1 v (n+1) xs):∃ g c,v = .slice (some ⟨g,0,none⟩) (n+1) c/\n+1<=c/\c<=maxLen/\B<=g/\g<w.heap.size/\(∀ (j:Nat) (x:Value),xs[j]? = some x->w.cell? ⟨g,j,none⟩=some x)/\∀ i,w.frozen? ⟨g,i,none⟩=false:=by
 have hc:=kg h;obtain ⟨h1,h2⟩:=h;rcases h2 with ⟨-,e0⟩ | ⟨g,cap,cur,rfl,hB,hh,hc1,hc2,-⟩
 ·omega
 ·obtain ⟨a,c,e,-,h3⟩:=hc;simp only [Value.slice.injEq] at e;obtain ⟨rfl,-,rfl⟩:=e;rcases h3 with h0 | ⟨g',e',hlt,hall⟩
  ·omega
  simp only [Option.some.injEq,Addr.mk.injEq] at e';obtain ⟨rfl,-⟩:=e';exact ⟨g,_,rfl,hc1,hc2,hB,hlt,hall,fun i=>frozen_of_row _ _ _ _ _ hh⟩
theorem q7t {w:World} {B n g c:Nat} {E:TypeId} {xs:List Value} (h:w.ownsRow B E 1 (.slice (some ⟨g,0,none⟩) n c) n xs) (i:Nat) (u:Value):(w.setCell ⟨g,i,none⟩ u).ownsRow B E 1 (.slice (some ⟨g,0,none⟩) n c) n (xs.set i u):=by
 obtain ⟨h1,h2⟩:=h;refine ⟨by simpa using h1,?_⟩;rcases h2 with ⟨e,-⟩ | ⟨g',cap,cur,e,hB,hh,hc1,hc2,hs,ht⟩
 ·simp at e
 ·simp only [Value.slice.injEq,Option.some.injEq,Addr.mk.injEq] at e;obtain ⟨⟨rfl,-⟩,-,rfl⟩:=e;refine .inr ⟨g,c,_,rfl,hB,heap_setCell_same w g i cur E u hh,hc1,hc2,by simpa using hs,?_⟩;rw [Array.toList_setIfInBounds,List.take_set,ht]
theorem qam {w:World} {B n g c:Nat} {E:TypeId} {xs:List Value} (h:w.ownsRow B E 1 (.slice (some ⟨g,0,none⟩) n c) n xs):∀ i,w.frozen? ⟨g,i,none⟩=false:=by
 rcases h.2 with ⟨e,-⟩ | ⟨g',cap,cur,e,-,hh,-⟩
 ·simp at e
 ·simp only [Value.slice.injEq,Option.some.injEq,Addr.mk.injEq] at e;obtain ⟨⟨rfl,-⟩,-,-⟩:=e;exact fun i=>frozen_of_row _ _ _ _ _ hh
theorem q64 {w:World} {B sz n n':Nat} {E:TypeId} {v:Value} {xs:List Value} (e:n'=n) (h:w.ownsRow B E sz v n xs):w.ownsRow B E sz v n' xs:=e ▸ h
theorem Tw (ss:List Sv) (i:Nat) (s:Sv):(ss.flatMap fS).set i s.v=(ss.set i s).flatMap fS:=by
 have e:∀ l:List Sv,l.flatMap fS=l.map Sv.v:=fun l=>by induction l with
  | nil=>rfl
  | cons x l ih=>rw [List.flatMap_cons,ih];rfl
 rw [e,e,List.map_set]
theorem q2t {ss:List Sv} {i:Nat} {s:Sv} (h:ss[i]? = some s):(ss.flatMap fS)[i]? = some s.v:=by have:=Td.at (j:=0) h Mg;rw [Nat.mul_one,Nat.add_zero] at this;exact this
def Gr (w:World) (B:Nat) (ss:List Sv) (gs:List (List It)):Prop:=ss.length=gs.length/\∀ (i:Nat) (s:Sv) (g:List It),ss[i]? = some s->gs[i]? = some g->w.ownsRow B 144 3 s.v g.length (g.flatMap fT)
theorem Yk {w:World} {B B' sz sz' n n':Nat} {E E':TypeId} {v v':Value} {xs xs':List Value} (h:w.ownsRow B E sz v n xs) (h':w.ownsRow B' E' sz' v' n' xs') (hE:E≠E'):∀ g,g∈v'.ownBlock.toList->g∉v.ownBlock.toList:=by
 intro g hg;rcases h'.2 with ⟨rfl,-⟩ | ⟨g',cap,cur,rfl,-,hh,-⟩
 ·simp [Value.ownBlock] at hg
 ·simp [Value.ownBlock] at hg;subst hg;exact jl h hh hE
theorem Gr.gs {w:World} {B:Nat} {ss:List Sv} {gs:List (List It)} (h:Gr w B ss gs):Gs w ss gs:=⟨h.1,fun i s g e1 e2=>Sq.own (h.2 i s g e1 e2)⟩
theorem Gr.up {w w':World} {B:Nat} {ss:List Sv} {gs:List (List It)} (h:Gr w B ss gs) (k:Fr [] w w'):Gr w' B ss gs:=⟨h.1,fun i s g e1 e2=>qp (h.2 i s g e1 e2) k⟩
theorem Gr.fr {w w':World} {B B' n:Nat} {u:Value} {xs:List Value} {ss:List Sv} {gs:List (List It)} (h:Gr w B ss gs) (hu:w.ownsRow B' 125 1 u n xs) (k:Fr u.ownBlock.toList w w'):Gr w' B ss gs :=
 ⟨h.1,fun i s g e1 e2=>Q7 (h.2 i s g e1 e2) k fun b hb=>Yk hu (h.2 i s g e1 e2) Mg b (by rw [hb];simp)⟩
theorem Gr.snoc {w:World} {B:Nat} {ss:List Sv} {gs:List (List It)} (h:Gr w B ss gs) {s:Sv} {g:List It} (hs:w.ownsRow B 144 3 s.v g.length (g.flatMap fT)):Gr w B (ss++[s]) (gs++[g]):=by
 refine ⟨by simp [h.1],fun i t k e1 e2=>?_⟩;by_cases hi:i<ss.length
 ·rw [List.getElem?_append_left hi] at e1;rw [List.getElem?_append_left Pu] at e2;exact h.2 i t k e1 e2
 ·rw [List.getElem?_append_right Ly] at e1;rw [List.getElem?_append_right (by rw [<- h.1];omega),<- h.1] at e2;have h0:i - ss.length=0:=by have:=(List.getElem?_eq_some_iff.1 e1).1;simp at this;omega
  rw [h0] at e1 e2;simp at e1 e2;subst e1 e2;exact hs
theorem Gr.set {w:World} {B:Nat} {ss:List Sv} {gs:List (List It)} (h:Gr w B ss gs) {s:Sv} {g:List It} (hs:w.ownsRow B 144 3 s.v g.length (g.flatMap fT)) (n:Nat):Gr w B (ss.set n s) (gs.set n g):=by
 refine ⟨by simp [h.1],fun i t k e1 e2=>?_⟩;by_cases hi:i=n
 ·subst hi;have h1:=(List.getElem?_eq_some_iff.1 e1).1;have h2:=(List.getElem?_eq_some_iff.1 e2).1;rw [List.length_set] at h1 h2;rw [List.getElem?_set_self h1] at e1;rw [List.getElem?_set_self h2] at e2;cases e1;cases e2;exact hs
 ·rw [List.getElem?_set_ne (fun e=>hi e.symm)] at e1 e2;exact h.2 i t k e1 e2
theorem Gr.one {w:World} {B:Nat} {ss:List Sv} {gs:List (List It)} (h:Gr w B ss gs) {i:Nat} {g:List It} (hi:gs[i]? = some g):∃ s,ss[i]? = some s/\s.n=g.length/\w.ownsRow B 144 3 s.v g.length (g.flatMap fT):=by obtain ⟨s,h1,h2,-⟩:=h.gs.one hi;exact ⟨s,h1,h2,h.2 i s g h1 hi⟩
theorem qdo (p:It->Bool):∀ (d:Nat) (l:List It) (i k:Nat),k=i+d->k<=l.length->(∀ (j:Nat),i<=j->j<k->∃ y,l[j]? = some y/\p y=true)->(∀ y,l[k]? = some y->p y=false)->(l.drop i).takeWhile p=(l.drop i).take d/\(l.drop i).dropWhile p=l.drop k:=by
 intro d;induction d with
 | zero =>
  intro l i k e hk hall hend;obtain rfl:k=i:=by omega
  by_cases hi:k<l.length
  ·rw [List.drop_eq_getElem_cons hi];have:=hend _ (List.getElem?_eq_getElem hi);exact ⟨by rw [List.takeWhile_cons,qf (by simp [this])];rfl,by rw [List.dropWhile_cons,qf (by simp [this])]⟩
  ·rw [List.drop_eq_nil_of_le Ly];exact ⟨rfl,rfl⟩
 | succ d ih =>
  intro l i k e hk hall hend;obtain ⟨y,hy,hp⟩:=hall i (Nat.le_refl _) Ly;obtain ⟨hi,rfl⟩:=List.getElem?_eq_some_iff.1 hy;have h:=ih l (i+1) k Ly hk (fun j h1 h2=>hall j Ly h2) hend;rw [List.drop_eq_getElem_cons hi];exact ⟨by rw [List.takeWhile_cons,qg hp,h.1];rfl,by rw [List.dropWhile_cons,qg hp,h.2]⟩
theorem q1n {half:Int} {m i k:Nat} {l:List It} {x:It} {out:List (List It)} {cur:List It} (hx:l[i]? = some x) (hk:i<k) (hkl:k<=l.length) (hall:∀ (j:Nat),i<=j->j<k->∃ y,l[j]? = some y/\y.k=x.k) (hend:∀ y,l[k]? = some y->y.k≠x.k) :
  Qk half (m+1) (l.drop i) out cur=if cur≠[]/\half<(cur.length:Int)+(k - i:Nat) then Qk half m (l.drop k) (out++[cur]) ((l.drop i).take (k - i)) else Qk half m (l.drop k) out (cur++(l.drop i).take (k - i)):=by
 have h:=qdo (fun y=>y.k == x.k) (k - i) l i k Ly hkl (fun j h1 h2=>by obtain ⟨y,h3,h4⟩:=hall j h1 h2;exact ⟨y,h3,by simpa using h4⟩) (fun y hy=>by simpa using hend y hy);have hlen:((l.drop i).take (k - i)).length=k - i:=by rw [List.length_take,List.length_drop];omega
 obtain ⟨hi,rfl⟩:=List.getElem?_eq_some_iff.1 hx;rw [List.drop_eq_getElem_cons hi] at h hlen ⊢;rw [List.takeWhile_cons,qg Ma,List.dropWhile_cons,qg Ma] at h;rw [<- h.1] at hlen ⊢;rw [<- h.2];show (if cur≠[]/\half<(cur.length:Int)+_ then _ else _)=_;rw [hlen]
theorem q46 (half:Int) (m:Nat) (out:List (List It)) (cur:List It):Qk half m [] out cur=out++[cur]:=by cases m <;> rfl
def SplAt (w:World) (half:Int) (l:List It) (R:List (List It)) (u x:Value) (wr:World):Prop:=∃ (i m d:Nat) (done:List (List It)) (cur:List It) (T:List Sv),i<=l.length/\x = .int .i64 (i:Nat)/\l.length<=m+i/\Qk half m (l.drop i) done cur=R/\d<=i/\cur.length<=i/\done.length=d/\T.length=d+1 /\
 wr.ownsRow w.heap.size 125 1 u (d+1) (T.flatMap fS)/\Gr wr w.heap.size T (done++[cur])/\Fr [] w wr
def RunAt (wr:World) (l:List It) (i:Nat) (x:It) (u:Value) (w':World):Prop:=∃ k,i<=k/\k<=l.length/\u = .int .i64 (k:Nat)/\Fr [] wr w'/\∀ (j:Nat),i<=j->j<k->∃ y,l[j]? = some y/\y.k=x.k
theorem q5b (l:List It) (cells:Int) (v:Value) (w:World) (hl:l.length<=1000) (hSq:Sq fT w v l) :
  Calls Tryz.prog 137 #[v,.int .i64 cells] w fun e w'=>(∃ u ss,e = .returned u/\ss.length=(vu l cells).length/\w'.ownsRow w.heap.size 125 1 u ss.length (ss.flatMap fS)/\Gr w' w.heap.size ss (vu l cells))/\Fr [] w w':=by
 unfold vu;obtain ⟨av,cv,rfl,hcv,hmv,-⟩:=id hSq;generalize hR:Qk (Xz cells) l.length l [] []=R;have HR0:=qb hR;clear hR;go_enter Tryz.func137,Tryz.ntmps137;have hhf:1<=Xz cells/\Xz cells<=8:=by unfold Xz;omega
 have ehf:max 2 (min cells 16) / 2=Xz cells:=rfl;have EHF:=qb ehf;clear ehf;have F12:=(Fr.refl [] w).alloc (.cells #[.slice none 0 0] 125);have B12:=Go.heap_alloc_new w (.cells #[.slice none 0 0] 125);go_wp2_with fail;have hEH:Xz cells=max 2 (min cells 16) / 2:=rfl;rw [hEH] at HR0 hhf;generalize max 2 (min cells 16) / 2=hfl at *;clear EHF hEH;go_loopw [6,7] (SplAt w hfl l R) (fun _ x _=>l.length - (intOf x).toNat);case atStart=>exact ⟨0,l.length,0,[],[],[⟨none,0,0⟩],by omega,rfl,by omega,HR0.out,by omega,by simp,rfl,rfl,⟨rfl,.inr ⟨w.heap.size,1,#[.slice none 0 0],rfl,Nat.le_refl _,B12,by omega,by simp [maxLen],rfl,rfl⟩⟩,⟨rfl,fun i s g e1 e2=>by cases i with | zero=>(simp at e1 e2;subst e1 e2;exact ⟨rfl,.inl ⟨rfl,rfl⟩⟩) | succ i=>simp at e1⟩,F12⟩
 case round =>
  obtain ⟨i,m,d,done,cur,T,hi,rfl,hm,hRR,hdi,hci,hdl,hTl,hr,hG,F⟩:=hrel;obtain ⟨g,c,rfl,hgc,hcm,hBg,hgs,hcell,-⟩:=q2g hr;by_cases hlt:i<l.length
  ·obtain ⟨x,hx⟩:∃ x,l[i]? = some x:=⟨l[i],List.getElem?_eq_getElem hlt⟩;obtain ⟨m,rfl⟩:∃ m',m=m'+1:=⟨m - 1,by omega⟩;have hzf:=fun (w':World) (f:Fr [] wr w') (w'':World) (f':Fr [] w' w'')=>(qam (qp hr (f.trans f')))
   obtain ⟨s,hs1,hs2,hs3⟩:=hG.one (i:=d) (g:=cur) (by rw [<- hdl];simp);have hcs:=hcell d s.v (q2t hs1);unfold Sv.v at hcs;rw [hs2] at hcs;have hh:=hSq.up F;obtain ⟨gl,ol,rfl,x0,-,-⟩:=xo hh hx;have HSP:=qb (fun k=>@q1n hfl m i k l x done cur hx);have HRR:=qb hRR;have HTl:=qb hTl;have HDl:=qb hdl;have HS2:=qb hs2;clear hRR hTl hdl hs2 B12;go_wp2_with fail;go_loopw [8] (RunAt wr l i x) (fun u _=>l.length - (intOf u).toNat);case atStart=>exact ⟨i,by omega,by omega,rfl,Fr.refl _ _,fun j h1 h2=>by omega⟩
   case round =>
    obtain ⟨k,hk1,hk2,rfl,F2,hall⟩:=hrel;have hx0:=qc (F2.cell x0 Ma);by_cases hkl:k<l.length
    focus
     obtain ⟨y,hy⟩:∃ y,l[k]? = some y:=⟨l[k],List.getElem?_eq_getElem hkl⟩
     obtain ⟨gl',ol',egl,y0,-,-⟩:=xo (hh.up F2) hy
     simp only [Option.some.injEq,Addr.mk.injEq] at egl
     obtain ⟨rfl,rfl,-⟩:=egl
     have hy0:=qc y0
     by_cases hyx:y.k=x.k
     ·have g1:(y.k == x.k)=true:=by simpa using hyx
      have HYX:=qb hyx
      clear hyx
      go_wp2_with fail
      refine wiq ?_
      repeat (go_big_quiet_step (fail))
      refine wpQuiet_nil ?_
      intro w7 F7
      go_wp2_with fail
      go_roundw
      case rel=>exact ⟨k+1,by omega,by omega,by go_num,F2.trans F7,fun j h1 h2=>by
       by_cases e:j=k
       ·exact ⟨y,by rw [e];exact hy,HYX.out⟩
       ·exact hall j h1 Ly⟩
      case measure=>simp [intOf];omega
     have hik:i<k:=by
      rcases Nat.lt_or_ge i k with h1 | h1
      ·exact h1
      ·obtain rfl:i=k:=by omega
       rw [hx] at hy;cases hy;exact absurd rfl hyx
     have g1:(y.k == x.k)=false:=by simpa using hyx
     have HST:=qb (HSP.out k hik hk2 hall (fun z hz=>by rw [hy] at hz;cases hz;exact hyx))
     clear hyx
     go_wp2_with fail
     refine wiq ?_
     repeat (go_big_quiet_step (fail))
     refine wpQuiet_nil ?_
     intro w7 F7
     have F3:=F2.trans F7
     clear F2 F7 hx0 hy0 y0
    rotate_left
    focus
     have hik:i<k:=by omega
     have HST:=qb (HSP.out k hik hk2 hall (fun z hz=>by rw [List.getElem?_eq_none Ly] at hz;cases hz))
     go_wp2_with fail
     refine wiq ?_
     repeat (go_big_quiet_step (fail))
     refine wpQuiet_nil ?_
     intro w7 F7
     have F3:=F2.trans F7
     clear F2 F7 hx0
    rotate_left
    all_goals
     have FW:=qb (F.trans F3)
     have FWW:=FW
     have c7:=F3.cell hcs Ma
     have HZ:=qb (show ∀ w',Fr [] w7 w'->∀ j,w'.frozen? ⟨g,j,none⟩=false from hzf w7 F3)
     by_cases hA:cur≠[]/\(hfl:Int)<(cur.length:Int)+(k - i:Nat)
     ·have e0:cur.length≠0:=fun e=>hA.1 (List.eq_nil_of_length_eq_zero e)
      have e1:decide ((cur.length:Int)>0)=true:=decide_eq_true Ly
      have hA2:=hA.2
      have e2:decide ((cur.length:Int)+(k:Nat) - (i:Nat)>(hfl:Int))=true:=decide_eq_true Ly
      clear hA2
      have HRX:=qb ((qg hA).symm.trans (HST.out.symm.trans HRR.out))
      have F12:=(Fr.refl [] w7).alloc (.cells #[.slice none 0 0] 125)
      have B12:=Go.heap_alloc_new w7 (.cells #[.slice none 0 0] 125)
      have r12:=qp (qp hr F3) F12
      have hGA:=qb ((hG.up F3).up F12)
      have HFA:=qb (FW.out.trans F12)
      have HZN:=qb (show w7.heap.size<=_ from F12.size)
      have r12':=q64 HTl.out r12
      have HRD:=qb r12
      have HCU:=qb (show cur.length<=1000/\T.length<=1001 from ⟨by omega,by have:=HTl.out;omega⟩)
      have HE0:=qb e0
      clear F12 r12 hA e0
      go_wp2_with (at_builtin;refine qw Td rfl _ _ 163 rfl Tryz.underlying163 svI rfl (B:=w.heap.size) _ T rfl r12' _ [⟨none,0,0⟩] rfl (Sq.block B12 rfl rfl (Nat.le_refl _) Mm) (by have:=HCU.out;simp;omega) Mg HFA.out.size ?_;intro a31 c31 w31 r31 f31)
      all_goals try (exfalso;have:=HE0.out;omega)
      have f32:Fr [g] _ w31:=f31
      have hGW:=(hGA.out.fr HRD.out f32).snoc (s:=⟨none,0,0⟩) (g:=[]) ⟨rfl,.inl ⟨rfl,rfl⟩⟩
      have FWW:=qb (HFA.out.own f32 P6)
      have FW:=FWW
      have e31:(T++[(⟨none,0,0⟩:Sv)]).length=d+1+1:=by simp;exact HTl.out
      rw [e31] at r31
      obtain ⟨g2,c2,e2,hgc2,hcm2,hBg2,hgs2,hcell2,-⟩:=q2g r31
      simp only [Value.slice.injEq,true_and] at e2
      obtain ⟨rfl,rfl⟩:=e2
      rw [HTl.out]
      have hrW:=r31
      have HZ:=qb (show ∀ w',Fr [] w31 w'->∀ j,w'.frozen? ⟨g2,j,none⟩=false from fun w' f=>qam (qp r31 f))
      have hcW:=hcell2 (d+1) (Sv.v ⟨none,0,0⟩) (q2t (by rw [<- HTl.out];simp))
      have HDN:=qb (show (done++[cur]).length=d+1 from by simp;exact HDl.out)
      have HTN:=qb e31
      have hsn:(⟨none,0,0⟩:Sv).n=([]:List It).length:=rfl
      have hsW:w31.ownsRow w.heap.size 144 3 (Sv.v ⟨none,0,0⟩) ([]:List It).length (([]:List It).flatMap fT):=⟨rfl,.inl ⟨rfl,rfl⟩⟩
      unfold Sv.v at hcW
      clear f31 f32 r31 e31 c7 B12 r12' hcell2
      have hlr:((l.drop i).take (k - i)).length=k - i:=by rw [List.length_take,List.length_drop];omega
      have SR:=qb (show Sq fT w31 (.slice (some ⟨gl,ol+i * 3,none⟩) (k - i) (cv - i)) ((l.drop i).take (k - i)) from Sq.take zk (Sq.drop zk (hSq.up FW.out) i Ly) (k - i) (by rw [List.length_drop];omega))
      have SC:=qb (show Sq fT w31 (.slice none ([]:List It).length 0) ([]:List It) from by have:=Sq.own (f:=fT) hsW;unfold Sv.v at this;rw [hsn] at this;exact this)
      have HLR:=qb hlr
      generalize (l.drop i).take (k - i)=run at SR HLR HRX
      clear hlr hsn hsW
      have HC:=qb hcW
      have HRW:=qb hrW
      have HGW:=qb hGW
      clear hcW hrW hGW
      refine qq Me ?_
      refine za [] w31 #[true,true,true,true,true,true,true,true,true,true,true,true,false,false] 12 2 rfl ?_
      refine lpq [true,true,true,true,true,true,false,true,true,true,true,false,false,false] 2 ((Fr.refl _ _).drew) ?_
      apply qh
      refine ⟨fun wf Ff=>?_,?_⟩
      ·have j0:=qc (Ff.cell HC.out Ma)
       simp only [sel]
       repeat (go_big_quiet_step (fail))
       exact wpQuiet_nil rfl
      refine loq 6 (fun w10 F10=>?_)
      have G:=((Fr.refl [] w31).drew).trans F10
      clear F10
      go_wp2_with (at_builtin;refine qw zk rfl _ _ 125 rfl Tryz.underlying125 itI rfl (B:=w31.heap.size) (.slice none 0 0) [] rfl ⟨rfl,.inl ⟨rfl,rfl⟩⟩ _ ([]:List It) rfl (SC.out.up G) Pd Mg G.size ?_;intro a21 c21 w21 r21 f21)
      rw [List.nil_append] at r21
      replace G:=G.trans f21
      clear f21
      refine qo ⟨G,?_⟩
      refine loq 11 (fun w13 F13=>?_)
      have r22:=qp r21 F13
      replace G:=G.trans F13
      clear r21 F13
      try rw [List.nil_append]
      go_wp2_with (at_builtin;refine qw zk rfl _ _ 125 rfl Tryz.underlying125 itI rfl (B:=w31.heap.size) _ ([]:List It) rfl r22 _ run rfl (SR.out.up G) (by have:=HLR.out;simp <;> omega) Mg G.size ?_;intro a23 c23 w23 r23 f23;generalize hT3:([]:List It)++run=T3 at r23 ⊢)
      replace G:=G.own f23 (zh r22)
      clear f23 r22
      refine qo ⟨G,?_⟩
      refine qy (k:=12) rfl Me (fun w15 F15=>?_)
      have r26:=qp r23 F15
      replace G:=G.trans F15
      clear r23 F15
      have hcz:=G.cell HC.out Ma
      have hfz:=HZ.out w15 G
      have hr15:=qp HRW.out G
      have hr16:=q7t hr15 (d+1) (.slice a23 T3.length c23)
      have SF:Fr [g2] w15 (w15.setCell ⟨g2,(d+1),none⟩ (.slice a23 T3.length c23)):=Fr.setCell _ Ma
      have hg16:=((HGW.out.up G).fr hr15 (by simpa [Value.ownBlock] using SF)).set (s:=⟨a23,T3.length,c23⟩) (g:=T3) (wu (Q7 r26 SF (fun b hb hi=>Yk hr15 r26 Mg b (by have hb':(Value.slice a23 T3.length c23).ownBlock=some b:=hb;rw [hb'];simp) Oz)) (FWW.out.size)) (d+1)
      have HR16:=qb (show World.ownsRow _ w.heap.size 125 1 _ ((d+1)+1) (((T++[(⟨none,0,0⟩:Sv)]).set (d+1) ⟨a23,T3.length,c23⟩).flatMap fS) from by rw [<- Tw];exact hr16)
      have HG16:=qb hg16
      have HF16:=qb ((FWW.out.trans G).own SF (by intro b hb;simp at hb;subst hb;exact hBg2))
      have HT3:=qb hT3
      clear hr15 hr16 SF hg16 r26 hT3 G
      go_wp2_with fail
      go_roundw
      case rel=>exact ⟨k,m,(d+1),(done++[cur]),T3,(T++[(⟨none,0,0⟩:Sv)]).set (d+1) ⟨a23,T3.length,c23⟩,by omega,by go_num,by omega,by rw [<- HT3.out];exact HRX.out,by omega,by rw [<- HT3.out];have:=HLR.out;simp;omega,HDN.out,by rw [List.length_set];exact HTN.out,HR16.out,by have h:=HG16.out;rw [show ((done++[cur])++[([]:List It)]).set (d+1) T3=(done++[cur])++[T3] by rw [<- HDN.out,List.set_append_right _ _ (Nat.le_refl _),Nat.sub_self];rfl] at h;exact h,HF16.out⟩
      case measure=>simp [intOf];omega
     have HRX:=qb ((qf hA).symm.trans (HST.out.symm.trans HRR.out))
     by_cases e0:cur.length=0
     focus
      have e1:decide ((cur.length:Int)>0)=false:=decide_eq_false Ly
      have e1a:decide (0<cur.length)=false:=decide_eq_false Ly
      have e1b:decide ((0:Int)<(cur.length:Int))=false:=decide_eq_false Ly
     rotate_left
     focus
      have e1:decide ((cur.length:Int)>0)=true:=decide_eq_true Ly
      have e2:decide ((cur.length:Int)+(k:Nat) - (i:Nat)>(hfl:Int))=false:=decide_eq_false (fun e=>hA ⟨fun e3=>e0 (by rw [e3];rfl),by omega⟩)
     rotate_left
     all_goals
      have hrW:=qp hr F3
      have hGW:=hG.up F3
      have hsW:=qp hs3 F3
      have hsn:=HS2.out
      have hcW:=c7
      have HDN:=HDl
      have HTN:=HTl
      have hk16:cur.length<=1000:=by omega
      have HE0:=qb e0
      clear hA e0
      go_wp2_with fail
      all_goals try (exfalso;have:=HE0.out;omega)
      have hlr:((l.drop i).take (k - i)).length=k - i:=by rw [List.length_take,List.length_drop];omega
      have SR:=qb (show Sq fT w7 (.slice (some ⟨gl,ol+i * 3,none⟩) (k - i) (cv - i)) ((l.drop i).take (k - i)) from Sq.take zk (Sq.drop zk (hSq.up FW.out) i Ly) (k - i) (by rw [List.length_drop];omega))
      have SC:=qb (show Sq fT w7 (.slice s.a cur.length s.c) cur from by have:=Sq.own (f:=fT) hsW;unfold Sv.v at this;rw [hsn] at this;exact this)
      have HLR:=qb hlr
      generalize (l.drop i).take (k - i)=run at SR HLR HRX
      clear hlr hsn hsW
      have HC:=qb hcW
      have HRW:=qb hrW
      have HGW:=qb hGW
      clear hcW hrW hGW
      refine qq Me ?_
      refine za [] w7 #[true,true,true,true,true,true,true,true,true,true,true,true,false,false] 12 2 rfl ?_
      refine lpq [true,true,true,true,true,true,false,true,true,true,true,false,false,false] 2 ((Fr.refl _ _).drew) ?_
      apply qh
      refine ⟨fun wf Ff=>?_,?_⟩
      ·have j0:=qc (Ff.cell HC.out Ma)
       simp only [sel]
       repeat (go_big_quiet_step (fail))
       exact wpQuiet_nil rfl
      refine loq 6 (fun w10 F10=>?_)
      have G:=((Fr.refl [] w7).drew).trans F10
      clear F10
      go_wp2_with (at_builtin;refine qw zk rfl _ _ 125 rfl Tryz.underlying125 itI rfl (B:=w7.heap.size) (.slice none 0 0) [] rfl ⟨rfl,.inl ⟨rfl,rfl⟩⟩ _ cur rfl (SC.out.up G) Pd Mg G.size ?_;intro a21 c21 w21 r21 f21)
      rw [List.nil_append] at r21
      replace G:=G.trans f21
      clear f21
      refine qo ⟨G,?_⟩
      refine loq 11 (fun w13 F13=>?_)
      have r22:=qp r21 F13
      replace G:=G.trans F13
      clear r21 F13
      try rw [List.nil_append]
      go_wp2_with (at_builtin;refine qw zk rfl _ _ 125 rfl Tryz.underlying125 itI rfl (B:=w7.heap.size) _ cur rfl r22 _ run rfl (SR.out.up G) (by have:=HLR.out;simp <;> omega) Mg G.size ?_;intro a23 c23 w23 r23 f23;generalize hT3:cur++run=T3 at r23 ⊢)
      replace G:=G.own f23 (zh r22)
      clear f23 r22
      refine qo ⟨G,?_⟩
      refine qy (k:=12) rfl Me (fun w15 F15=>?_)
      have r26:=qp r23 F15
      replace G:=G.trans F15
      clear r23 F15
      have hcz:=G.cell HC.out Ma
      have hfz:=HZ.out w15 G
      have hr15:=qp HRW.out G
      have hr16:=q7t hr15 d (.slice a23 T3.length c23)
      have SF:Fr [g] w15 (w15.setCell ⟨g,d,none⟩ (.slice a23 T3.length c23)):=Fr.setCell _ Ma
      have hg16:=((HGW.out.up G).fr hr15 (by simpa [Value.ownBlock] using SF)).set (s:=⟨a23,T3.length,c23⟩) (g:=T3) (wu (Q7 r26 SF (fun b hb hi=>Yk hr15 r26 Mg b (by have hb':(Value.slice a23 T3.length c23).ownBlock=some b:=hb;rw [hb'];simp) Oz)) (FWW.out.size)) d
      have HR16:=qb (show World.ownsRow _ w.heap.size 125 1 _ (d+1) ((T.set d ⟨a23,T3.length,c23⟩).flatMap fS) from by rw [<- Tw];exact hr16)
      have HG16:=qb hg16
      have HF16:=qb ((FWW.out.trans G).own SF P6)
      have HT3:=qb hT3
      clear hr15 hr16 SF hg16 r26 hT3 G
      go_wp2_with fail
      go_roundw
      case rel=>exact ⟨k,m,d,done,T3,T.set d ⟨a23,T3.length,c23⟩,by omega,by go_num,by omega,by rw [<- HT3.out];exact HRX.out,by omega,by rw [<- HT3.out];have:=HLR.out;simp;omega,HDN.out,by rw [List.length_set];exact HTN.out,HR16.out,by have h:=HG16.out;rw [show (done++[cur]).set d T3=done++[T3] by rw [<- HDN.out,List.set_append_right _ _ (Nat.le_refl _),Nat.sub_self];rfl] at h;exact h,HF16.out⟩
      case measure=>simp [intOf];omega
  ·obtain rfl:i=l.length:=by omega
   rw [List.drop_length] at hRR;have hRe:R=done++[cur]:=by rw [<- hRR];exact q46 _ _ _ _
   have HL:=qb (show T.length=R.length from by rw [hRe,hTl,List.length_append,hdl];rfl);have HR:=qb (q64 hTl hr);have HG:=qb (show Gr wr w.heap.size T R from by rw [hRe];exact hG);clear hRe hRR hTl hdl hr hG;go_wp2_with fail;go_ret;exact ⟨⟨_,T,rfl,HL.out,HR.out,HG.out⟩,F⟩
end Go.Proofs.YtbddhncgemeohaaGreatDoor.Mx
namespace Go.Proofs.YtbddhncgemeohaaGreatDoor.Mx
open Go.RowKit Ar Ref
def Bd.cells (x:Bd) (vv lv gv wv:Value):Array Value:=#[.int .i64 x.c.t,.int .i64 x.c.c,.int .i64 x.c.wd,.int .i64 x.c.v,.int .i64 x.chunk,.int .i64 x.mate,.int .i64 x.after,vv,.int .i64 x.line,.int .i64 x.i,.int .i64 x.mn,.int .i64 x.at_,.int .i64 x.x.k,.int .i64 x.x.v,.int .i64 x.x.d,lv,gv,wv,.int .i64 x.repl,.int .i64 x.e]
def Q9 (w:World) (b:Nat) (x:Bd) (vv lv gv wv:Value):Prop:=Ob w b 166 (x.cells vv lv gv wv)
theorem zm {w:World} {b:Nat} {x:Bd} {vv lv gv wv:Value} (h:Q9 w b x vv lv gv wv):w.cell? ⟨b,0,none⟩=some (.int .i64 x.c.t)/\w.cell? ⟨b,1,none⟩=some (.int .i64 x.c.c)/\w.cell? ⟨b,2,none⟩=some (.int .i64 x.c.wd)/\w.cell? ⟨b,3,none⟩=some (.int .i64 x.c.v)/\w.cell? ⟨b,4,none⟩=some (.int .i64 x.chunk)/\w.cell? ⟨b,5,none⟩=some (.int .i64 x.mate)/\w.cell? ⟨b,6,none⟩=some (.int .i64 x.after)/\w.cell? ⟨b,7,none⟩=some vv/\w.cell? ⟨b,8,none⟩=some (.int .i64 x.line)/\w.cell? ⟨b,9,none⟩=some (.int .i64 x.i)/\w.cell? ⟨b,10,none⟩=some (.int .i64 x.mn)/\w.cell? ⟨b,11,none⟩=some (.int .i64 x.at_)/\w.cell? ⟨b,12,none⟩=some (.int .i64 x.x.k)/\w.cell? ⟨b,13,none⟩=some (.int .i64 x.x.v)/\w.cell? ⟨b,14,none⟩=some (.int .i64 x.x.d)/\w.cell? ⟨b,15,none⟩=some lv/\w.cell? ⟨b,16,none⟩=some gv/\w.cell? ⟨b,17,none⟩=some wv/\w.cell? ⟨b,18,none⟩=some (.int .i64 x.repl)/\w.cell? ⟨b,19,none⟩=some (.int .i64 x.e) :=
 ⟨h.cell rfl,h.cell rfl,h.cell rfl,h.cell rfl,h.cell rfl,h.cell rfl,h.cell rfl,h.cell rfl,h.cell rfl,h.cell rfl,h.cell rfl,h.cell rfl,h.cell rfl,h.cell rfl,h.cell rfl,h.cell rfl,h.cell rfl,h.cell rfl,h.cell rfl,h.cell rfl⟩
theorem Fr.two (b i j:Nat) (u v:Value) (w:World):Fr [b] w ((w.setCell ⟨b,i,none⟩ u).setCell ⟨b,j,none⟩ v):=(Fr.setCell _ Ma).setCell' _ Ma
theorem q72 {w:World} {B:Nat} {ss:List Sv} {gs:List (List It)} (h:Gr w B ss gs):∀ s,s∈ss->∀ k,k∈s.v.ownBlock.toList->B<=k:=by intro s hs k hk;obtain ⟨i,hi,rfl⟩:=List.getElem_of_mem hs;obtain ⟨g,hg⟩:∃ g,gs[i]? = some g:=⟨gs[i]'(by rw [<- h.1];exact hi),List.getElem?_eq_getElem _⟩;exact zh (h.2 i _ g (List.getElem?_eq_getElem hi) hg) k hk
theorem Zp {w:World} {B sz n:Nat} {E:TypeId} {v:Value} {xs:List Value} (h:w.ownsRow B E sz v n xs):∀ k,k∈v.ownBlock.toList->k<w.heap.size:=fun k hk=>(h.lt k Nh).2
theorem gr_lt {w:World} {B:Nat} {ss:List Sv} {gs:List (List It)} (h:Gr w B ss gs):∀ s,s∈ss->∀ k,k∈s.v.ownBlock.toList->k<w.heap.size:=by intro s hs k hk;obtain ⟨i,hi,rfl⟩:=List.getElem_of_mem hs;obtain ⟨g,hg⟩:∃ g,gs[i]? = some g:=⟨gs[i]'(by rw [<- h.1];exact hi),List.getElem?_eq_getElem _⟩;exact Zp (h.2 i _ g (List.getElem?_eq_getElem hi) hg) k hk
theorem Sd (vs:List Int):∀ s:List It,(Xj vs s).length<=s.length
 | []=>by simp [Xj]
 | x :: r=>by
  have:=Sd vs r;unfold Xj;split <;> simp <;> omega
theorem Ri (l:List It) (vs:List Int):(J6 l vs).length<=l.length:=by have:=Sd vs (Ze l);rw [Xi] at this;exact this
theorem Uf (x:Bd) (hc:x.c.Ok) (hi:-2<=x.i/\x.i<=40) (hl:x.l.length<=1000) (hvl:x.versions.length<=1000) (b:Nat) (w:World) (vv lv gv wv:Value) (h:Q9 w b x vv lv gv wv) (hV:Sq fI w vv x.versions) (hL:Sq fT w lv x.l) (nV:b∉vv.ownBlock.toList) (nL:b∉lv.ownBlock.toList) :
  Calls Tryz.prog 127 #[.pointer (some ⟨b,0,none⟩)] w fun e w'=>e = .returned (.tuple #[])/\(∃ gv',Q9 w' b x.on vv lv gv' wv/\((x.on.groups=x.groups/\gv'=gv)\/∃ ss,Sq fS w' gv' ss/\Gs w' ss x.on.groups/\(∀ k,k∈gv'.ownBlock.toList->w.heap.size<=k/\k<w'.heap.size)/\(∀ s,s∈ss->∀ k,k∈s.v.ownBlock.toList->w.heap.size<=k/\k<w'.heap.size)))/\Fr [b] w w':=by
 generalize hy:x.on=y;have HY:=qb hy;have HV:=qb (qd hV (qd hL (qd nV nL)));clear hy hV hL nV nL;obtain ⟨c0,c1,c2,c3,c4,c5,c6,c7,c8,c9,c10,c11,c12,c13,c14,c15,c16,c17,c18,c19⟩:=zm h;have z:=h.frozen;go_enter Tryz.func127,Tryz.ntmps127;go_wp2_with fail;have h1:Q9 _ b { x with i:=x.i+1,line:=2 } vv lv gv wv:=Ob.set (Ob.set h (i:=9) (.int .i64 (x.i+1))) (i:=8) (.int .i64 2);have D1:Fr [b] w ((w.setCell ⟨b,9,none⟩ (.int .i64 (x.i+1))).setCell ⟨b,8,none⟩ (.int .i64 2)):=(Fr.setCell _ Ma).setCell' _ Ma;clear c0 c1 c2 c3 c4 c5 c6 c7 c8 c9 c10 c11 c12 c13 c14 c15 c16 c17 c18 c19 z h;generalize ((w.setCell ⟨b,9,none⟩ (.int .i64 (x.i+1))).setCell ⟨b,8,none⟩ (.int .i64 2))=w1 at *;obtain ⟨c0,c1,c2,c3,-,c5,-,-,-,c9,-,-,-,-,-,-,-,-,-,-⟩:=zm h1;have k0:=qc c0;have k1:=qc c1;have k2:=qc c2;have k3:=qc c3;have k5:=qc c5;have k9:=qc c9;clear c0 c1 c2 c3 c5 c9;refine wiq ?_;repeat (go_big_quiet_step ((go_at_call 121;exact Calls.in_ (U3 x.c _ hc _))))
 refine wpQuiet_nil ?_;intro w2 F2;have h2:Q9 w2 b { x with i:=x.i+1,line:=2 } vv lv gv wv:=Ob.up h1 F2;have D2:=D1.then F2;clear h1 D1 F2 k0 k1 k2 k3 k5 k9;by_cases hv:Q8 x.c x.mate<=x.i+1
 ·have hn:y = { x with i:=x.i+1,groups:=vu (J6 x.l x.versions) x.c.c,line:=5 }:=by rw [<- HY.out];unfold Bd.on;simp [hv]
  subst hn;obtain ⟨c0,c1,c2,c3,c4,c5,c6,c7,c8,c9,c10,c11,c12,c13,c14,c15,c16,c17,c18,c19⟩:=zm h2;have z:=h2.frozen;go_wp2_with fail;have V2:=HV.out.1.kept D2 (fun k hk hi=>by simp at hi;subst hi;exact HV.out.2.2.1 hk);have L2:=HV.out.2.1.kept D2 (fun k hk hi=>by simp at hi;subst hi;exact HV.out.2.2.2 hk);have HO2:=qb h2;clear c0 c1 c2 c3 c4 c5 c6 c7 c8 c9 c10 c11 c12 c13 c14 c15 c16 c17 c18 c19;refine qq Me ?_;refine za [] w2 #[true,true,true,true,true,true,true,true,true,true,true,true,true,true,true,true,false,false,false] 16 3 rfl ?_;refine lpq [true,true,true,true,true,true,true,true,true,false,true,true,true,true,true,false,false,false,false] 2 ((Fr.refl _ _).drew) ?_;apply qh;refine ⟨fun wf Ff=>?_,?_⟩
  ·obtain ⟨c0,c1,c2,c3,-,-,-,c7,-,-,-,-,-,-,-,c15,-,-,-,-⟩:=zm (Ob.up h2 Ff);have j1:=qc c1;have j7:=qc c7;have j15:=qc c15;clear c0 c1 c2 c3 c7 c15;exact Ac
  refine loq 9 (fun w3 F3=>?_);have G3:=((Fr.refl [] w2).drew).trans F3;go_wp2_with fail;refine (q9g x.l x.versions lv vv _ hl hvl (L2.up G3) (V2.up G3)).mono ?_;rintro e w4 ⟨⟨r,rfl,r4⟩,F4⟩;have G4:=G3.trans F4;clear F3 F4 G3;go_wp2_with fail;refine qo ⟨G4,?_⟩;refine loq 15 (fun w5 F5=>?_);have G5:=G4.trans F5;have r5:=qp r4 F5;clear F5 G4 r4;have HKL:=Ri x.l x.versions;generalize hkt:J6 x.l x.versions=kt at *;have HKT:=qb hkt;clear hkt;go_wp2_with fail;refine (q5b kt x.c.c r _ Ly (Sq.own (f:=fT) r5)).mono ?_;rintro e w6 ⟨⟨u,ss,rfl,hss,r6,g6⟩,F6⟩;have G6:=G5.trans F6;have HSS:=qb hss;clear hss;clear F6 r5;go_wp2_with fail;refine qo ⟨G6,?_⟩;refine qy (k:=16) rfl Me (fun w7 F7=>?_);have G7:=G6.trans F7;have h7:=Ob.up h2 G7;have r7:=qp r6 F7;have g7:=g6.gs.up F7;have z:=h7.frozen;obtain ⟨c0,c1,c2,c3,c4,c5,c6,c7,c8,c9,c10,c11,c12,c13,c14,c15,c16,c17,c18,c19⟩:=zm h7;have HG:=qb g6;have HF7:=qb F7.size;have HB:=qb G5.size;obtain ⟨ua,uc,rfl,-,-,-⟩:=id (Sq.own (f:=fS) r7);have HW7:=qb (qd h7 (qd r7 (qd g7 G7)));clear F7 G6 h2 r6 g6 h7 r7 g7 G7;go_wp2_with fail;go_end0;exact ⟨rfl,⟨_,Ob.set (Ob.set HW7.out.1 (i:=16) _) (i:=8) _,.inr ⟨ss,(Sq.own (f:=fS) HW7.out.2.1).kept (Fr.two b 16 8 _ _ _) (fun k hk hi=>by simp at hi;subst hi;exact jl HW7.out.2.1 HW7.out.1 Mg hk),by rw [HKT.out];exact HW7.out.2.2.1.kept (Fr.two b 16 8 _ _ _) (fun s hs k hk hi=>by have hi2:k=b:=(by simpa using hi);have h1:=q72 HG.out s hs k hk;have h2:=HB.out;have h3:=Ob.lt HO2.out;omega),fun k hk=>⟨qi (qi D2.size HB.out) (zh HW7.out.2.1 k Nh),ql (Zp HW7.out.2.1 k Nh) (Fr.two b 16 8 _ _ _).size⟩,fun s hs k hk=>⟨qi (qi D2.size HB.out) (q72 HG.out s hs k Nh),ql (gr_lt HG.out s hs k Nh) (qi HF7.out (Fr.two b 16 8 _ _ _).size)⟩⟩⟩,(D2.then HW7.out.2.2.2).trans (Fr.two b 16 8 _ _ _)⟩
 ·have hn:y = { x with i:=x.i+1,line:=2 }:=by rw [<- HY.out];unfold Bd.on;simp [hv]
  subst hn;go_wp2_with fail;go_end0;exact ⟨rfl,⟨gv,h2,.inl rfl⟩,D2⟩
end Go.Proofs.YtbddhncgemeohaaGreatDoor.Mx
