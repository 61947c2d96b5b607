/- Parts. -/
import Derived.Test.YthokjbikomjhgaaGreatDoorVaa
import Derived.Test.YthokjbikomjhgaaGreatDoorVac
import Derived.Test.YthokjbikomjhgaaGreatDoorVaf
import Derived.Test.YthokjbikomjhgaaGreatDoorVan
import Derived.Lib.MinMax
set_option linter.unusedVariables false
set_option linter.unusedSimpArgs false
set_option maxRecDepth 100000
set_option maxHeartbeats 12800000
namespace Go.Proofs.YthokjbikomjhgaaGreatDoor.Mx
open Go.RowKit Ar
theorem q2s {w:World} {B n:Nat} {E:TypeId} {v:Value} {xs:List Value} (h:w.ownsRow B E 1 v (n+1) xs):∃ g c,v = .slice (some ⟨g,0,none⟩) (n+1) c/\n+1<=c/\c<=maxLen/\B<=g/\g<w.heap.size/\(∀ (j:Nat) (x:Value),xs[j]? = some x->w.cell? ⟨g,j,none⟩=some x)/\∀ i,w.frozen? ⟨g,i,none⟩=false:=by
 have hc:=Qc h;obtain ⟨h1,h2⟩:=h;rcases h2 with ⟨-,e0⟩ | ⟨g,cap,cur,rfl,hB,hh,hc1,hc2,-⟩
 ·omega
 ·obtain ⟨a,c,e,-,h3⟩:=hc;simp only [Value.slice.injEq] at e;obtain ⟨rfl,-,rfl⟩:=e;rcases h3 with h0 | ⟨g',e',hlt,hall⟩
  ·omega
  simp only [Option.some.injEq,Addr.mk.injEq] at e';obtain ⟨rfl,-⟩:=e';exact ⟨g,_,rfl,hc1,hc2,hB,hlt,hall,fun i=>frozen_of_row _ _ _ _ _ hh⟩
theorem q7c {w:World} {B n g c:Nat} {E:TypeId} {xs:List Value} (h:w.ownsRow B E 1 (.slice (some ⟨g,0,none⟩) n c) n xs) (i:Nat) (u:Value):(w.setCell ⟨g,i,none⟩ u).ownsRow B E 1 (.slice (some ⟨g,0,none⟩) n c) n (xs.set i u):=by
 obtain ⟨h1,h2⟩:=h;refine ⟨by simpa using h1,?_⟩;rcases h2 with ⟨e,-⟩ | ⟨g',cap,cur,e,hB,hh,hc1,hc2,hs,ht⟩
 ·simp at e
 ·simp only [Value.slice.injEq,Option.some.injEq,Addr.mk.injEq] at e;obtain ⟨⟨rfl,-⟩,-,rfl⟩:=e;refine .inr ⟨g,c,_,rfl,hB,heap_setCell_same w g i cur E u hh,hc1,hc2,by simpa using hs,?_⟩;rw [Array.toList_setIfInBounds,List.take_set,ht]
theorem qaj {w:World} {B n g c:Nat} {E:TypeId} {xs:List Value} (h:w.ownsRow B E 1 (.slice (some ⟨g,0,none⟩) n c) n xs):∀ i,w.frozen? ⟨g,i,none⟩=false:=by
 rcases h.2 with ⟨e,-⟩ | ⟨g',cap,cur,e,-,hh,-⟩
 ·simp at e
 ·simp only [Value.slice.injEq,Option.some.injEq,Addr.mk.injEq] at e;obtain ⟨⟨rfl,-⟩,-,-⟩:=e;exact fun i=>frozen_of_row _ _ _ _ _ hh
theorem q79 {w:World} {B sz n n':Nat} {E:TypeId} {v:Value} {xs:List Value} (e:n'=n) (h:w.ownsRow B E sz v n xs):w.ownsRow B E sz v n' xs:=e ▸ h
theorem q06 (ss:List Sv) (i:Nat) (s:Sv):(ss.flatMap fS).set i s.v=(ss.set i s).flatMap fS:=by
 have e:∀ l:List Sv,l.flatMap fS=l.map Sv.v:=fun l=>by induction l with
  | nil=>rfl
  | cons x l ih=>rw [List.flatMap_cons,ih];rfl
 rw [e,e,List.map_set]
theorem q2r {ss:List Sv} {i:Nat} {s:Sv} (h:ss[i]? = some s):(ss.flatMap fS)[i]? = some s.v:=by have:=Tu.at (j:=0) h Lr;rw [Nat.mul_one,Nat.add_zero] at this;exact this
def Gr (w:World) (B:Nat) (ss:List Sv) (gs:List (List It)):Prop:=ss.length=gs.length/\∀ (i:Nat) (s:Sv) (g:List It),ss[i]? = some s->gs[i]? = some g->w.ownsRow B 74 3 s.v g.length (g.flatMap fT)
theorem Yk {w:World} {B B' sz sz' n n':Nat} {E E':TypeId} {v v':Value} {xs xs':List Value} (h:w.ownsRow B E sz v n xs) (h':w.ownsRow B' E' sz' v' n' xs') (hE:E≠E'):∀ g,g∈v'.ownBlock.toList->g∉v.ownBlock.toList:=by
 intro g hg;rcases h'.2 with ⟨rfl,-⟩ | ⟨g',cap,cur,rfl,-,hh,-⟩
 ·simp [Value.ownBlock] at hg
 ·simp [Value.ownBlock] at hg;subst hg;exact ji h hh hE
theorem Gr.gs {w:World} {B:Nat} {ss:List Sv} {gs:List (List It)} (h:Gr w B ss gs):Gs w ss gs:=⟨h.1,fun i s g e1 e2=>Sq.own (h.2 i s g e1 e2)⟩
theorem Gr.up {w w':World} {B:Nat} {ss:List Sv} {gs:List (List It)} (h:Gr w B ss gs) (k:Fr [] w w'):Gr w' B ss gs:=⟨h.1,fun i s g e1 e2=>qo (h.2 i s g e1 e2) k⟩
theorem Gr.fr {w w':World} {B B' n:Nat} {u:Value} {xs:List Value} {ss:List Sv} {gs:List (List It)} (h:Gr w B ss gs) (hu:w.ownsRow B' 65 1 u n xs) (k:Fr u.ownBlock.toList w w'):Gr w' B ss gs :=
 ⟨h.1,fun i s g e1 e2=>Q4 (h.2 i s g e1 e2) k fun b hb=>Yk hu (h.2 i s g e1 e2) Lr b (by rw [hb];simp)⟩
theorem Gr.snoc {w:World} {B:Nat} {ss:List Sv} {gs:List (List It)} (h:Gr w B ss gs) {s:Sv} {g:List It} (hs:w.ownsRow B 74 3 s.v g.length (g.flatMap fT)):Gr w B (ss++[s]) (gs++[g]):=by
 refine ⟨by simp [h.1],fun i t k e1 e2=>?_⟩;by_cases hi:i<ss.length
 ·rw [List.getElem?_append_left hi] at e1;rw [List.getElem?_append_left P9] at e2;exact h.2 i t k e1 e2
 ·rw [List.getElem?_append_right Lj] at e1;rw [List.getElem?_append_right (by rw [<- h.1];omega),<- h.1] at e2;have h0:i - ss.length=0:=by have:=(List.getElem?_eq_some_iff.1 e1).1;simp at this;omega
  rw [h0] at e1 e2;simp at e1 e2;subst e1 e2;exact hs
theorem Gr.set {w:World} {B:Nat} {ss:List Sv} {gs:List (List It)} (h:Gr w B ss gs) {s:Sv} {g:List It} (hs:w.ownsRow B 74 3 s.v g.length (g.flatMap fT)) (n:Nat):Gr w B (ss.set n s) (gs.set n g):=by
 refine ⟨by simp [h.1],fun i t k e1 e2=>?_⟩;by_cases hi:i=n
 ·subst hi;have h1:=(List.getElem?_eq_some_iff.1 e1).1;have h2:=(List.getElem?_eq_some_iff.1 e2).1;rw [List.length_set] at h1 h2;rw [List.getElem?_set_self h1] at e1;rw [List.getElem?_set_self h2] at e2;cases e1;cases e2;exact hs
 ·rw [List.getElem?_set_ne (fun e=>hi e.symm)] at e1 e2;exact h.2 i t k e1 e2
theorem Gr.one {w:World} {B:Nat} {ss:List Sv} {gs:List (List It)} (h:Gr w B ss gs) {i:Nat} {g:List It} (hi:gs[i]? = some g):∃ s,ss[i]? = some s/\s.n=g.length/\w.ownsRow B 74 3 s.v g.length (g.flatMap fT):=by obtain ⟨s,h1,h2,-⟩:=h.gs.one hi;exact ⟨s,h1,h2,h.2 i s g h1 hi⟩
theorem qdw (p:It->Bool):∀ (d:Nat) (l:List It) (i k:Nat),k=i+d->k<=l.length->(∀ (j:Nat),i<=j->j<k->∃ y,l[j]? = some y/\p y=true)->(∀ y,l[k]? = some y->p y=false)->(l.drop i).takeWhile p=(l.drop i).take d/\(l.drop i).dropWhile p=l.drop k:=by
 intro d;induction d with
 | zero =>
  intro l i k e hk hall hend;obtain rfl:k=i:=by omega
  by_cases hi:k<l.length
  ·rw [List.drop_eq_getElem_cons hi];have:=hend _ (List.getElem?_eq_getElem hi);exact ⟨by rw [List.takeWhile_cons,qd (by simp [this])];rfl,by rw [List.dropWhile_cons,qd (by simp [this])]⟩
  ·rw [List.drop_eq_nil_of_le Lj];exact ⟨rfl,rfl⟩
 | succ d ih =>
  intro l i k e hk hall hend;obtain ⟨y,hy,hp⟩:=hall i (Nat.le_refl _) Lj;obtain ⟨hi,rfl⟩:=List.getElem?_eq_some_iff.1 hy;have h:=ih l (i+1) k Lj hk (fun j h1 h2=>hall j Lj h2) hend;rw [List.drop_eq_getElem_cons hi];exact ⟨by rw [List.takeWhile_cons,qf hp,h.1];rfl,by rw [List.dropWhile_cons,qf hp,h.2]⟩
theorem q15 {half:Int} {m i k:Nat} {l:List It} {x:It} {out:List (List It)} {cur:List It} (hx:l[i]? = some x) (hk:i<k) (hkl:k<=l.length) (hall:∀ (j:Nat),i<=j->j<k->∃ y,l[j]? = some y/\y.k=x.k) (hend:∀ y,l[k]? = some y->y.k≠x.k) :
  kr half (m+1) (l.drop i) out cur=if cur≠[]/\half<(cur.length:Int)+(k - i:Nat) then kr half m (l.drop k) (out++[cur]) ((l.drop i).take (k - i)) else kr half m (l.drop k) out (cur++(l.drop i).take (k - i)):=by
 have h:=qdw (fun y=>y.k == x.k) (k - i) l i k Lj hkl (fun j h1 h2=>by obtain ⟨y,h3,h4⟩:=hall j h1 h2;exact ⟨y,h3,by simpa using h4⟩) (fun y hy=>by simpa using hend y hy);have hlen:((l.drop i).take (k - i)).length=k - i:=by rw [List.length_take,List.length_drop];omega
 obtain ⟨hi,rfl⟩:=List.getElem?_eq_some_iff.1 hx;rw [List.drop_eq_getElem_cons hi] at h hlen ⊢;rw [List.takeWhile_cons,qf Ll,List.dropWhile_cons,qf Ll] at h;rw [<- h.1] at hlen ⊢;rw [<- h.2];show (if cur≠[]/\half<(cur.length:Int)+_ then _ else _)=_;rw [hlen]
theorem q42 (half:Int) (m:Nat) (out:List (List It)) (cur:List It):kr half m [] out cur=out++[cur]:=by cases m <;> rfl
def SplAt (w:World) (half:Int) (l:List It) (R:List (List It)) (u x:Value) (wr:World):Prop:=∃ (i m d:Nat) (done:List (List It)) (cur:List It) (T:List Sv),i<=l.length/\x = .int .i64 (i:Nat)/\l.length<=m+i/\kr half m (l.drop i) done cur=R/\d<=i/\cur.length<=i/\done.length=d/\T.length=d+1 /\
 wr.ownsRow w.heap.size 65 1 u (d+1) (T.flatMap fS)/\Gr wr w.heap.size T (done++[cur])/\Fr [] w wr
def RunAt (wr:World) (l:List It) (i:Nat) (x:It) (u:Value) (w':World):Prop:=∃ k,i<=k/\k<=l.length/\u = .int .i64 (k:Nat)/\Fr [] wr w'/\∀ (j:Nat),i<=j->j<k->∃ y,l[j]? = some y/\y.k=x.k
theorem q7u (l:List It) (cells:Int) (v:Value) (w:World) (hl:l.length<=1000) (hSq:Sq fT w v l) :
  Calls Tryz.prog 254 #[v,.int .i64 cells] w fun e w'=>(∃ u ss,e = .returned u/\ss.length=(xw l cells).length/\w'.ownsRow w.heap.size 65 1 u ss.length (ss.flatMap fS)/\Gr w' w.heap.size ss (xw l cells))/\Fr [] w w':=by
 unfold xw;obtain ⟨av,cv,rfl,hcv,hmv,-⟩:=id hSq;generalize hR:kr (Xx cells) l.length l [] []=R;have HR0:=q9 hR;clear hR;go_enter Tryz.func254,Tryz.ntmps254;have hhf:1<=Xx cells/\Xx cells<=8:=by unfold Xx;omega
 have ehf:max 2 (min cells 16) / 2=Xx cells:=rfl;have EHF:=q9 ehf;clear ehf;have F12:=(Fr.refl [] w).alloc (.cells #[.slice none 0 0] 65);have B12:=Go.heap_alloc_new w (.cells #[.slice none 0 0] 65);go_wp2_with fail;have hEH:Xx cells=max 2 (min cells 16) / 2:=rfl;rw [hEH] at HR0 hhf;generalize max 2 (min cells 16) / 2=hfl at *;clear EHF hEH;go_loopw [6,7] (SplAt w hfl l R) (fun _ x _=>l.length - (intOf x).toNat);case atStart=>exact ⟨0,l.length,0,[],[],[⟨none,0,0⟩],by omega,rfl,by omega,HR0.out,by omega,by simp,rfl,rfl,⟨rfl,.inr ⟨w.heap.size,1,#[.slice none 0 0],rfl,Nat.le_refl _,B12,by omega,by simp [maxLen],rfl,rfl⟩⟩,⟨rfl,fun i s g e1 e2=>by cases i with | zero=>(simp at e1 e2;subst e1 e2;exact ⟨rfl,.inl ⟨rfl,rfl⟩⟩) | succ i=>simp at e1⟩,F12⟩
 case round =>
  obtain ⟨i,m,d,done,cur,T,hi,rfl,hm,hRR,hdi,hci,hdl,hTl,hr,hG,F⟩:=hrel;obtain ⟨g,c,rfl,hgc,hcm,hBg,hgs,hcell,-⟩:=q2s hr;by_cases hlt:i<l.length
  ·obtain ⟨x,hx⟩:∃ x,l[i]? = some x:=⟨l[i],List.getElem?_eq_getElem hlt⟩;obtain ⟨m,rfl⟩:∃ m',m=m'+1:=⟨m - 1,by omega⟩;have hzf:=fun (w':World) (f:Fr [] wr w') (w'':World) (f':Fr [] w' w'')=>(qaj (qo hr (f.trans f')))
   obtain ⟨s,hs1,hs2,hs3⟩:=hG.one (i:=d) (g:=cur) (by rw [<- hdl];simp);have hcs:=hcell d s.v (q2r hs1);unfold Sv.v at hcs;rw [hs2] at hcs;have hh:=hSq.up F;obtain ⟨gl,ol,rfl,x0,-,-⟩:=xj hh hx;have HSP:=q9 (fun k=>@q15 hfl m i k l x done cur hx);have HRR:=q9 hRR;have HTl:=q9 hTl;have HDl:=q9 hdl;have HS2:=q9 hs2;clear hRR hTl hdl hs2 B12;go_wp2_with fail;go_loopw [8] (RunAt wr l i x) (fun u _=>l.length - (intOf u).toNat);case atStart=>exact ⟨i,by omega,by omega,rfl,Fr.refl _ _,fun j h1 h2=>by omega⟩
   case round =>
    obtain ⟨k,hk1,hk2,rfl,F2,hall⟩:=hrel;have hx0:=qb (F2.cell x0 Ll);by_cases hkl:k<l.length
    focus
     obtain ⟨y,hy⟩:∃ y,l[k]? = some y:=⟨l[k],List.getElem?_eq_getElem hkl⟩
     obtain ⟨gl',ol',egl,y0,-,-⟩:=xj (hh.up F2) hy
     simp only [Option.some.injEq,Addr.mk.injEq] at egl
     obtain ⟨rfl,rfl,-⟩:=egl
     have hy0:=qb y0
     by_cases hyx:y.k=x.k
     ·have g1:(y.k == x.k)=true:=by simpa using hyx
      have HYX:=q9 hyx
      clear hyx
      go_wp2_with fail
      refine wiq ?_
      repeat (go_big_quiet_step (fail))
      refine wpQuiet_nil ?_
      intro w7 F7
      go_wp2_with fail
      go_roundw
      case rel=>exact ⟨k+1,by omega,by omega,by go_num,F2.trans F7,fun j h1 h2=>by
       by_cases e:j=k
       ·exact ⟨y,by rw [e];exact hy,HYX.out⟩
       ·exact hall j h1 Lj⟩
      case measure=>simp [intOf];omega
     have hik:i<k:=by
      rcases Nat.lt_or_ge i k with h1 | h1
      ·exact h1
      ·obtain rfl:i=k:=by omega
       rw [hx] at hy;cases hy;exact absurd rfl hyx
     have g1:(y.k == x.k)=false:=by simpa using hyx
     have HST:=q9 (HSP.out k hik hk2 hall (fun z hz=>by rw [hy] at hz;cases hz;exact hyx))
     clear hyx
     go_wp2_with fail
     refine wiq ?_
     repeat (go_big_quiet_step (fail))
     refine wpQuiet_nil ?_
     intro w7 F7
     have F3:=F2.trans F7
     clear F2 F7 hx0 hy0 y0
    rotate_left
    focus
     have hik:i<k:=by omega
     have HST:=q9 (HSP.out k hik hk2 hall (fun z hz=>by rw [List.getElem?_eq_none Lj] at hz;cases hz))
     go_wp2_with fail
     refine wiq ?_
     repeat (go_big_quiet_step (fail))
     refine wpQuiet_nil ?_
     intro w7 F7
     have F3:=F2.trans F7
     clear F2 F7 hx0
    rotate_left
    all_goals
     have FW:=q9 (F.trans F3)
     have FWW:=FW
     have c7:=F3.cell hcs Ll
     have HZ:=q9 (show ∀ w',Fr [] w7 w'->∀ j,w'.frozen? ⟨g,j,none⟩=false from hzf w7 F3)
     by_cases hA:cur≠[]/\(hfl:Int)<(cur.length:Int)+(k - i:Nat)
     ·have e0:cur.length≠0:=fun e=>hA.1 (List.eq_nil_of_length_eq_zero e)
      have e1:decide ((cur.length:Int)>0)=true:=decide_eq_true Lj
      have hA2:=hA.2
      have e2:decide ((cur.length:Int)+(k:Nat) - (i:Nat)>(hfl:Int))=true:=decide_eq_true Lj
      clear hA2
      have HRX:=q9 ((qf hA).symm.trans (HST.out.symm.trans HRR.out))
      have F12:=(Fr.refl [] w7).alloc (.cells #[.slice none 0 0] 65)
      have B12:=Go.heap_alloc_new w7 (.cells #[.slice none 0 0] 65)
      have r12:=qo (qo hr F3) F12
      have hGA:=q9 ((hG.up F3).up F12)
      have HFA:=q9 (FW.out.trans F12)
      have HZN:=q9 (show w7.heap.size<=_ from F12.size)
      have r12':=q79 HTl.out r12
      have HRD:=q9 r12
      have HCU:=q9 (show cur.length<=1000/\T.length<=1001 from ⟨by omega,by have:=HTl.out;omega⟩)
      have HE0:=q9 e0
      clear F12 r12 hA e0
      go_wp2_with (at_builtin;refine qq Tu rfl _ _ 281 rfl Tryz.underlying281 svI rfl (B:=w.heap.size) _ T rfl r12' _ [⟨none,0,0⟩] rfl (Sq.block B12 rfl rfl (Nat.le_refl _) Ly) (by have:=HCU.out;simp;omega) Lr HFA.out.size ?_;intro a31 c31 w31 r31 f31)
      all_goals try (exfalso;have:=HE0.out;omega)
      have f32:Fr [g] _ w31:=f31
      have hGW:=(hGA.out.fr HRD.out f32).snoc (s:=⟨none,0,0⟩) (g:=[]) ⟨rfl,.inl ⟨rfl,rfl⟩⟩
      have FWW:=q9 (HFA.out.own f32 Oe)
      have FW:=FWW
      have e31:(T++[(⟨none,0,0⟩:Sv)]).length=d+1+1:=by simp;exact HTl.out
      rw [e31] at r31
      obtain ⟨g2,c2,e2,hgc2,hcm2,hBg2,hgs2,hcell2,-⟩:=q2s r31
      simp only [Value.slice.injEq,true_and] at e2
      obtain ⟨rfl,rfl⟩:=e2
      rw [HTl.out]
      have hrW:=r31
      have HZ:=q9 (show ∀ w',Fr [] w31 w'->∀ j,w'.frozen? ⟨g2,j,none⟩=false from fun w' f=>qaj (qo r31 f))
      have hcW:=hcell2 (d+1) (Sv.v ⟨none,0,0⟩) (q2r (by rw [<- HTl.out];simp))
      have HDN:=q9 (show (done++[cur]).length=d+1 from by simp;exact HDl.out)
      have HTN:=q9 e31
      have hsn:(⟨none,0,0⟩:Sv).n=([]:List It).length:=rfl
      have hsW:w31.ownsRow w.heap.size 74 3 (Sv.v ⟨none,0,0⟩) ([]:List It).length (([]:List It).flatMap fT):=⟨rfl,.inl ⟨rfl,rfl⟩⟩
      unfold Sv.v at hcW
      clear f31 f32 r31 e31 c7 B12 r12' hcell2
      have hlr:((l.drop i).take (k - i)).length=k - i:=by rw [List.length_take,List.length_drop];omega
      have SR:=q9 (show Sq fT w31 (.slice (some ⟨gl,ol+i * 3,none⟩) (k - i) (cv - i)) ((l.drop i).take (k - i)) from Sq.take zh (Sq.drop zh (hSq.up FW.out) i Lj) (k - i) (by rw [List.length_drop];omega))
      have SC:=q9 (show Sq fT w31 (.slice none ([]:List It).length 0) ([]:List It) from by have:=Sq.own (f:=fT) hsW;unfold Sv.v at this;rw [hsn] at this;exact this)
      have HLR:=q9 hlr
      generalize (l.drop i).take (k - i)=run at SR HLR HRX
      clear hlr hsn hsW
      have HC:=q9 hcW
      have HRW:=q9 hrW
      have HGW:=q9 hGW
      clear hcW hrW hGW
      refine qp Lm ?_
      refine za [] w31 #[true,true,true,true,true,true,true,true,true,true,true,true,false,false] 12 2 rfl ?_
      refine lpq [true,true,true,true,true,true,false,true,true,true,true,false,false,false] 2 ((Fr.refl _ _).drew) ?_
      apply qg
      refine ⟨fun wf Ff=>?_,?_⟩
      ·have j0:=qb (Ff.cell HC.out Ll)
       simp only [sel]
       repeat (go_big_quiet_step (fail))
       exact wpQuiet_nil rfl
      refine loq 6 (fun w10 F10=>?_)
      have G:=((Fr.refl [] w31).drew).trans F10
      clear F10
      go_wp2_with (at_builtin;refine qq zh rfl _ _ 65 rfl Tryz.underlying65 itI rfl (B:=w31.heap.size) (.slice none 0 0) [] rfl ⟨rfl,.inl ⟨rfl,rfl⟩⟩ _ ([]:List It) rfl (SC.out.up G) Om Lr G.size ?_;intro a21 c21 w21 r21 f21)
      rw [List.nil_append] at r21
      replace G:=G.trans f21
      clear f21
      refine ql ⟨G,?_⟩
      refine loq 11 (fun w13 F13=>?_)
      have r22:=qo r21 F13
      replace G:=G.trans F13
      clear r21 F13
      try rw [List.nil_append]
      go_wp2_with (at_builtin;refine qq zh rfl _ _ 65 rfl Tryz.underlying65 itI rfl (B:=w31.heap.size) _ ([]:List It) rfl r22 _ run rfl (SR.out.up G) (by have:=HLR.out;simp <;> omega) Lr G.size ?_;intro a23 c23 w23 r23 f23;generalize hT3:([]:List It)++run=T3 at r23 ⊢)
      replace G:=G.own f23 (z8 r22)
      clear f23 r22
      refine ql ⟨G,?_⟩
      refine qy (k:=12) rfl Lm (fun w15 F15=>?_)
      have r26:=qo r23 F15
      replace G:=G.trans F15
      clear r23 F15
      have hcz:=G.cell HC.out Ll
      have hfz:=HZ.out w15 G
      have hr15:=qo HRW.out G
      have hr16:=q7c hr15 (d+1) (.slice a23 T3.length c23)
      have SF:Fr [g2] w15 (w15.setCell ⟨g2,(d+1),none⟩ (.slice a23 T3.length c23)):=Fr.setCell _ Ll
      have hg16:=((HGW.out.up G).fr hr15 (by simpa [Value.ownBlock] using SF)).set (s:=⟨a23,T3.length,c23⟩) (g:=T3) (Q3 (Q4 r26 SF (fun b hb hi=>Yk hr15 r26 Lr b (by have hb':(Value.slice a23 T3.length c23).ownBlock=some b:=hb;rw [hb'];simp) Oc)) (FWW.out.size)) (d+1)
      have HR16:=q9 (show World.ownsRow _ w.heap.size 65 1 _ ((d+1)+1) (((T++[(⟨none,0,0⟩:Sv)]).set (d+1) ⟨a23,T3.length,c23⟩).flatMap fS) from by rw [<- q06];exact hr16)
      have HG16:=q9 hg16
      have HF16:=q9 ((FWW.out.trans G).own SF (by intro b hb;simp at hb;subst hb;exact hBg2))
      have HT3:=q9 hT3
      clear hr15 hr16 SF hg16 r26 hT3 G
      go_wp2_with fail
      go_roundw
      case rel=>exact ⟨k,m,(d+1),(done++[cur]),T3,(T++[(⟨none,0,0⟩:Sv)]).set (d+1) ⟨a23,T3.length,c23⟩,by omega,by go_num,by omega,by rw [<- HT3.out];exact HRX.out,by omega,by rw [<- HT3.out];have:=HLR.out;simp;omega,HDN.out,by rw [List.length_set];exact HTN.out,HR16.out,by have h:=HG16.out;rw [show ((done++[cur])++[([]:List It)]).set (d+1) T3=(done++[cur])++[T3] by rw [<- HDN.out,List.set_append_right _ _ (Nat.le_refl _),Nat.sub_self];rfl] at h;exact h,HF16.out⟩
      case measure=>simp [intOf];omega
     have HRX:=q9 ((qd hA).symm.trans (HST.out.symm.trans HRR.out))
     by_cases e0:cur.length=0
     focus
      have e1:decide ((cur.length:Int)>0)=false:=decide_eq_false Lj
      have e1a:decide (0<cur.length)=false:=decide_eq_false Lj
      have e1b:decide ((0:Int)<(cur.length:Int))=false:=decide_eq_false Lj
     rotate_left
     focus
      have e1:decide ((cur.length:Int)>0)=true:=decide_eq_true Lj
      have e2:decide ((cur.length:Int)+(k:Nat) - (i:Nat)>(hfl:Int))=false:=decide_eq_false (fun e=>hA ⟨fun e3=>e0 O8,by omega⟩)
     rotate_left
     all_goals
      have hrW:=qo hr F3
      have hGW:=hG.up F3
      have hsW:=qo hs3 F3
      have hsn:=HS2.out
      have hcW:=c7
      have HDN:=HDl
      have HTN:=HTl
      have hk16:cur.length<=1000:=by omega
      have HE0:=q9 e0
      clear hA e0
      go_wp2_with fail
      all_goals try (exfalso;have:=HE0.out;omega)
      have hlr:((l.drop i).take (k - i)).length=k - i:=by rw [List.length_take,List.length_drop];omega
      have SR:=q9 (show Sq fT w7 (.slice (some ⟨gl,ol+i * 3,none⟩) (k - i) (cv - i)) ((l.drop i).take (k - i)) from Sq.take zh (Sq.drop zh (hSq.up FW.out) i Lj) (k - i) (by rw [List.length_drop];omega))
      have SC:=q9 (show Sq fT w7 (.slice s.a cur.length s.c) cur from by have:=Sq.own (f:=fT) hsW;unfold Sv.v at this;rw [hsn] at this;exact this)
      have HLR:=q9 hlr
      generalize (l.drop i).take (k - i)=run at SR HLR HRX
      clear hlr hsn hsW
      have HC:=q9 hcW
      have HRW:=q9 hrW
      have HGW:=q9 hGW
      clear hcW hrW hGW
      refine qp Lm ?_
      refine za [] w7 #[true,true,true,true,true,true,true,true,true,true,true,true,false,false] 12 2 rfl ?_
      refine lpq [true,true,true,true,true,true,false,true,true,true,true,false,false,false] 2 ((Fr.refl _ _).drew) ?_
      apply qg
      refine ⟨fun wf Ff=>?_,?_⟩
      ·have j0:=qb (Ff.cell HC.out Ll)
       simp only [sel]
       repeat (go_big_quiet_step (fail))
       exact wpQuiet_nil rfl
      refine loq 6 (fun w10 F10=>?_)
      have G:=((Fr.refl [] w7).drew).trans F10
      clear F10
      go_wp2_with (at_builtin;refine qq zh rfl _ _ 65 rfl Tryz.underlying65 itI rfl (B:=w7.heap.size) (.slice none 0 0) [] rfl ⟨rfl,.inl ⟨rfl,rfl⟩⟩ _ cur rfl (SC.out.up G) Om Lr G.size ?_;intro a21 c21 w21 r21 f21)
      rw [List.nil_append] at r21
      replace G:=G.trans f21
      clear f21
      refine ql ⟨G,?_⟩
      refine loq 11 (fun w13 F13=>?_)
      have r22:=qo r21 F13
      replace G:=G.trans F13
      clear r21 F13
      try rw [List.nil_append]
      go_wp2_with (at_builtin;refine qq zh rfl _ _ 65 rfl Tryz.underlying65 itI rfl (B:=w7.heap.size) _ cur rfl r22 _ run rfl (SR.out.up G) (by have:=HLR.out;simp <;> omega) Lr G.size ?_;intro a23 c23 w23 r23 f23;generalize hT3:cur++run=T3 at r23 ⊢)
      replace G:=G.own f23 (z8 r22)
      clear f23 r22
      refine ql ⟨G,?_⟩
      refine qy (k:=12) rfl Lm (fun w15 F15=>?_)
      have r26:=qo r23 F15
      replace G:=G.trans F15
      clear r23 F15
      have hcz:=G.cell HC.out Ll
      have hfz:=HZ.out w15 G
      have hr15:=qo HRW.out G
      have hr16:=q7c hr15 d (.slice a23 T3.length c23)
      have SF:Fr [g] w15 (w15.setCell ⟨g,d,none⟩ (.slice a23 T3.length c23)):=Fr.setCell _ Ll
      have hg16:=((HGW.out.up G).fr hr15 (by simpa [Value.ownBlock] using SF)).set (s:=⟨a23,T3.length,c23⟩) (g:=T3) (Q3 (Q4 r26 SF (fun b hb hi=>Yk hr15 r26 Lr b (by have hb':(Value.slice a23 T3.length c23).ownBlock=some b:=hb;rw [hb'];simp) Oc)) (FWW.out.size)) d
      have HR16:=q9 (show World.ownsRow _ w.heap.size 65 1 _ (d+1) ((T.set d ⟨a23,T3.length,c23⟩).flatMap fS) from by rw [<- q06];exact hr16)
      have HG16:=q9 hg16
      have HF16:=q9 ((FWW.out.trans G).own SF Oe)
      have HT3:=q9 hT3
      clear hr15 hr16 SF hg16 r26 hT3 G
      go_wp2_with fail
      go_roundw
      case rel=>exact ⟨k,m,d,done,T3,T.set d ⟨a23,T3.length,c23⟩,by omega,by go_num,by omega,by rw [<- HT3.out];exact HRX.out,by omega,by rw [<- HT3.out];have:=HLR.out;simp;omega,HDN.out,by rw [List.length_set];exact HTN.out,HR16.out,by have h:=HG16.out;rw [show (done++[cur]).set d T3=done++[T3] by rw [<- HDN.out,List.set_append_right _ _ (Nat.le_refl _),Nat.sub_self];rfl] at h;exact h,HF16.out⟩
      case measure=>simp [intOf];omega
  ·obtain rfl:i=l.length:=by omega
   rw [List.drop_length] at hRR;have hRe:R=done++[cur]:=by rw [<- hRR];exact q42 _ _ _ _
   have HL:=q9 (show T.length=R.length from by rw [hRe,hTl,List.length_append,hdl];rfl);have HR:=q9 (q79 hTl hr);have HG:=q9 (show Gr wr w.heap.size T R from by rw [hRe];exact hG);clear hRe hRR hTl hdl hr hG;go_wp2_with fail;go_ret;exact ⟨⟨_,T,rfl,HL.out,HR.out,HG.out⟩,F⟩
end Go.Proofs.YthokjbikomjhgaaGreatDoor.Mx
namespace Go.Proofs.YthokjbikomjhgaaGreatDoor.Mx
open Go.RowKit Ar Ref
def Bd.cells (x:Bd) (vv lv gv wv:Value):Array Value:=#[.int .i64 x.c.t,.int .i64 x.c.c,.int .i64 x.c.wd,.int .i64 x.c.v,.int .i64 x.chunk,.int .i64 x.mate,.int .i64 x.after,vv,.int .i64 x.line,.int .i64 x.i,.int .i64 x.mn,.int .i64 x.at_,.int .i64 x.x.k,.int .i64 x.x.v,.int .i64 x.x.d,lv,gv,wv,.int .i64 x.repl,.int .i64 x.e]
def Q8 (w:World) (b:Nat) (x:Bd) (vv lv gv wv:Value):Prop:=Ob w b 284 (x.cells vv lv gv wv)
theorem zi {w:World} {b:Nat} {x:Bd} {vv lv gv wv:Value} (h:Q8 w b x vv lv gv wv):w.cell? ⟨b,0,none⟩=some (.int .i64 x.c.t)/\w.cell? ⟨b,1,none⟩=some (.int .i64 x.c.c)/\w.cell? ⟨b,2,none⟩=some (.int .i64 x.c.wd)/\w.cell? ⟨b,3,none⟩=some (.int .i64 x.c.v)/\w.cell? ⟨b,4,none⟩=some (.int .i64 x.chunk)/\w.cell? ⟨b,5,none⟩=some (.int .i64 x.mate)/\w.cell? ⟨b,6,none⟩=some (.int .i64 x.after)/\w.cell? ⟨b,7,none⟩=some vv/\w.cell? ⟨b,8,none⟩=some (.int .i64 x.line)/\w.cell? ⟨b,9,none⟩=some (.int .i64 x.i)/\w.cell? ⟨b,10,none⟩=some (.int .i64 x.mn)/\w.cell? ⟨b,11,none⟩=some (.int .i64 x.at_)/\w.cell? ⟨b,12,none⟩=some (.int .i64 x.x.k)/\w.cell? ⟨b,13,none⟩=some (.int .i64 x.x.v)/\w.cell? ⟨b,14,none⟩=some (.int .i64 x.x.d)/\w.cell? ⟨b,15,none⟩=some lv/\w.cell? ⟨b,16,none⟩=some gv/\w.cell? ⟨b,17,none⟩=some wv/\w.cell? ⟨b,18,none⟩=some (.int .i64 x.repl)/\w.cell? ⟨b,19,none⟩=some (.int .i64 x.e) :=
 ⟨h.cell rfl,h.cell rfl,h.cell rfl,h.cell rfl,h.cell rfl,h.cell rfl,h.cell rfl,h.cell rfl,h.cell rfl,h.cell rfl,h.cell rfl,h.cell rfl,h.cell rfl,h.cell rfl,h.cell rfl,h.cell rfl,h.cell rfl,h.cell rfl,h.cell rfl,h.cell rfl⟩
theorem Fr.two (b i j:Nat) (u v:Value) (w:World):Fr [b] w ((w.setCell ⟨b,i,none⟩ u).setCell ⟨b,j,none⟩ v):=(Fr.setCell _ Ll).setCell' _ Ll
theorem q73 {w:World} {B:Nat} {ss:List Sv} {gs:List (List It)} (h:Gr w B ss gs):∀ s,s∈ss->∀ k,k∈s.v.ownBlock.toList->B<=k:=by intro s hs k hk;obtain ⟨i,hi,rfl⟩:=List.getElem_of_mem hs;obtain ⟨g,hg⟩:∃ g,gs[i]? = some g:=⟨gs[i]'(by rw [<- h.1];exact hi),List.getElem?_eq_getElem _⟩;exact z8 (h.2 i _ g (List.getElem?_eq_getElem hi) hg) k hk
theorem Zj {w:World} {B sz n:Nat} {E:TypeId} {v:Value} {xs:List Value} (h:w.ownsRow B E sz v n xs):∀ k,k∈v.ownBlock.toList->k<w.heap.size:=fun k hk=>(h.lt k Ms).2
theorem gr_lt {w:World} {B:Nat} {ss:List Sv} {gs:List (List It)} (h:Gr w B ss gs):∀ s,s∈ss->∀ k,k∈s.v.ownBlock.toList->k<w.heap.size:=by intro s hs k hk;obtain ⟨i,hi,rfl⟩:=List.getElem_of_mem hs;obtain ⟨g,hg⟩:∃ g,gs[i]? = some g:=⟨gs[i]'(by rw [<- h.1];exact hi),List.getElem?_eq_getElem _⟩;exact Zj (h.2 i _ g (List.getElem?_eq_getElem hi) hg) k hk
theorem Sc (vs:List Int):∀ s:List It,(Zn vs s).length<=s.length
 | []=>by simp [Zn]
 | x :: r=>by
  have:=Sc vs r;unfold Zn;split <;> simp <;> omega
theorem Rk (l:List It) (vs:List Int):(Yl l vs).length<=l.length:=by have:=Sc vs (Zh l);rw [Xh] at this;exact this
theorem Ur (x:Bd) (hc:x.c.Ok) (hi:-2<=x.i/\x.i<=40) (hl:x.l.length<=1000) (hvl:x.versions.length<=1000) (b:Nat) (w:World) (vv lv gv wv:Value) (h:Q8 w b x vv lv gv wv) (hV:Sq fI w vv x.versions) (hL:Sq fT w lv x.l) (nV:b∉vv.ownBlock.toList) (nL:b∉lv.ownBlock.toList) :
  Calls Tryz.prog 241 #[.pointer (some ⟨b,0,none⟩)] w fun e w'=>e = .returned (.tuple #[])/\(∃ gv',Q8 w' b x.on vv lv gv' wv/\((x.on.groups=x.groups/\gv'=gv)\/∃ ss,Sq fS w' gv' ss/\Gs w' ss x.on.groups/\(∀ k,k∈gv'.ownBlock.toList->w.heap.size<=k/\k<w'.heap.size)/\(∀ s,s∈ss->∀ k,k∈s.v.ownBlock.toList->w.heap.size<=k/\k<w'.heap.size)))/\Fr [b] w w':=by
 generalize hy:x.on=y;have HY:=q9 hy;have HV:=q9 (qc hV (qc hL (qc nV nL)));clear hy hV hL nV nL;obtain ⟨c0,c1,c2,c3,c4,c5,c6,c7,c8,c9,c10,c11,c12,c13,c14,c15,c16,c17,c18,c19⟩:=zi h;have z:=h.frozen;go_enter Tryz.func241,Tryz.ntmps241;go_wp2_with fail;have h1:Q8 _ b { x with i:=x.i+1,line:=2 } vv lv gv wv:=Ob.set (Ob.set h (i:=9) (.int .i64 (x.i+1))) (i:=8) (.int .i64 2);have D1:Fr [b] w ((w.setCell ⟨b,9,none⟩ (.int .i64 (x.i+1))).setCell ⟨b,8,none⟩ (.int .i64 2)):=(Fr.setCell _ Ll).setCell' _ Ll;clear c0 c1 c2 c3 c4 c5 c6 c7 c8 c9 c10 c11 c12 c13 c14 c15 c16 c17 c18 c19 z h;generalize ((w.setCell ⟨b,9,none⟩ (.int .i64 (x.i+1))).setCell ⟨b,8,none⟩ (.int .i64 2))=w1 at *;obtain ⟨c0,c1,c2,c3,-,c5,-,-,-,c9,-,-,-,-,-,-,-,-,-,-⟩:=zi h1;have k0:=qb c0;have k1:=qb c1;have k2:=qb c2;have k3:=qb c3;have k5:=qb c5;have k9:=qb c9;clear c0 c1 c2 c3 c5 c9;refine wiq ?_;repeat (go_big_quiet_step ((go_at_call 235;exact Calls.in_ (U7 x.c _ hc _))))
 refine wpQuiet_nil ?_;intro w2 F2;have h2:Q8 w2 b { x with i:=x.i+1,line:=2 } vv lv gv wv:=Ob.up h1 F2;have D2:=D1.then F2;clear h1 D1 F2 k0 k1 k2 k3 k5 k9;by_cases hv:Q5 x.c x.mate<=x.i+1
 ·have hn:y = { x with i:=x.i+1,groups:=xw (Yl x.l x.versions) x.c.c,line:=5 }:=by rw [<- HY.out];unfold Bd.on;simp [hv]
  subst hn;obtain ⟨c0,c1,c2,c3,c4,c5,c6,c7,c8,c9,c10,c11,c12,c13,c14,c15,c16,c17,c18,c19⟩:=zi h2;have z:=h2.frozen;go_wp2_with fail;have V2:=HV.out.1.kept D2 (fun k hk hi=>by simp at hi;subst hi;exact HV.out.2.2.1 hk);have L2:=HV.out.2.1.kept D2 (fun k hk hi=>by simp at hi;subst hi;exact HV.out.2.2.2 hk);have HO2:=q9 h2;clear c0 c1 c2 c3 c4 c5 c6 c7 c8 c9 c10 c11 c12 c13 c14 c15 c16 c17 c18 c19;refine qp Lm ?_;refine za [] w2 #[true,true,true,true,true,true,true,true,true,true,true,true,true,true,true,true,false,false,false] 16 3 rfl ?_;refine lpq [true,true,true,true,true,true,true,true,true,false,true,true,true,true,true,false,false,false,false] 2 ((Fr.refl _ _).drew) ?_;apply qg;refine ⟨fun wf Ff=>?_,?_⟩
  ·obtain ⟨c0,c1,c2,c3,-,-,-,c7,-,-,-,-,-,-,-,c15,-,-,-,-⟩:=zi (Ob.up h2 Ff);have j1:=qb c1;have j7:=qb c7;have j15:=qb c15;clear c0 c1 c2 c3 c7 c15;exact Ab
  refine loq 9 (fun w3 F3=>?_);have G3:=((Fr.refl [] w2).drew).trans F3;go_wp2_with fail;refine (q9t x.l x.versions lv vv _ hl hvl (L2.up G3) (V2.up G3)).mono ?_;rintro e w4 ⟨⟨r,rfl,r4⟩,F4⟩;have G4:=G3.trans F4;clear F3 F4 G3;go_wp2_with fail;refine ql ⟨G4,?_⟩;refine loq 15 (fun w5 F5=>?_);have G5:=G4.trans F5;have r5:=qo r4 F5;clear F5 G4 r4;have HKL:=Rk x.l x.versions;generalize hkt:Yl x.l x.versions=kt at *;have HKT:=q9 hkt;clear hkt;go_wp2_with fail;refine (q7u kt x.c.c r _ Lj (Sq.own (f:=fT) r5)).mono ?_;rintro e w6 ⟨⟨u,ss,rfl,hss,r6,g6⟩,F6⟩;have G6:=G5.trans F6;have HSS:=q9 hss;clear hss;clear F6 r5;go_wp2_with fail;refine ql ⟨G6,?_⟩;refine qy (k:=16) rfl Lm (fun w7 F7=>?_);have G7:=G6.trans F7;have h7:=Ob.up h2 G7;have r7:=qo r6 F7;have g7:=g6.gs.up F7;have z:=h7.frozen;obtain ⟨c0,c1,c2,c3,c4,c5,c6,c7,c8,c9,c10,c11,c12,c13,c14,c15,c16,c17,c18,c19⟩:=zi h7;have HG:=q9 g6;have HF7:=q9 F7.size;have HB:=q9 G5.size;obtain ⟨ua,uc,rfl,-,-,-⟩:=id (Sq.own (f:=fS) r7);have HW7:=q9 (qc h7 (qc r7 (qc g7 G7)));clear F7 G6 h2 r6 g6 h7 r7 g7 G7;go_wp2_with fail;go_end0;exact ⟨rfl,⟨_,Ob.set (Ob.set HW7.out.1 (i:=16) _) (i:=8) _,.inr ⟨ss,(Sq.own (f:=fS) HW7.out.2.1).kept (Fr.two b 16 8 _ _ _) (fun k hk hi=>by simp at hi;subst hi;exact ji HW7.out.2.1 HW7.out.1 Lr hk),by rw [HKT.out];exact HW7.out.2.2.1.kept (Fr.two b 16 8 _ _ _) (fun s hs k hk hi=>by have hi2:k=b:=(by simpa using hi);have h1:=q73 HG.out s hs k hk;have h2:=HB.out;have h3:=Ob.lt HO2.out;omega),fun k hk=>⟨qh (qh D2.size HB.out) (z8 HW7.out.2.1 k Ms),qj (Zj HW7.out.2.1 k Ms) (Fr.two b 16 8 _ _ _).size⟩,fun s hs k hk=>⟨qh (qh D2.size HB.out) (q73 HG.out s hs k Ms),qj (gr_lt HG.out s hs k Ms) (qh HF7.out (Fr.two b 16 8 _ _ _).size)⟩⟩⟩,(D2.then HW7.out.2.2.2).trans (Fr.two b 16 8 _ _ _)⟩
 ·have hn:y = { x with i:=x.i+1,line:=2 }:=by rw [<- HY.out];unfold Bd.on;simp [hv]
  subst hn;go_wp2_with fail;go_end0;exact ⟨rfl,⟨gv,h2,.inl rfl⟩,D2⟩
end Go.Proofs.YthokjbikomjhgaaGreatDoor.Mx
namespace Go.Proofs.YthokjbikomjhgaaGreatDoor.Og
open Go.RowKit Go.Maps Ar
def qaq (o:O):Bool:=fit o.1 o.2.1 o.2.2.1 o.2.2.2
def qdn (os:List O):Bool:=os.all qaq
def Zm (t c wd v:Int) (rs:List (List O)) (ps:List Int):Int:=if Pl.code t c wd v=0 then (if large t rs ps=true then 12 else if rs.all qdn=true then 0 else 10) else Pl.code t c wd v
theorem q23 {w:World} {b:Nat} {t:TypeId} {x0 x1 x2 x3 x4 x5 x6:Value} (h:w.heap[b]? = some (.cells #[x0,x1,x2,x3,x4,x5,x6] t (0,0))) :
  w.cell? ⟨b,0,none⟩=some x0/\w.cell? ⟨b,1,none⟩=some x1/\w.cell? ⟨b,2,none⟩=some x2/\w.cell? ⟨b,3,none⟩=some x3/\w.cell? ⟨b,4,none⟩=some x4/\w.cell? ⟨b,5,none⟩=some x5/\w.cell? ⟨b,6,none⟩=some x6 :=
 ⟨by rw [cell_of_row _ _ _ _ _ _ h];rfl,by rw [cell_of_row _ _ _ _ _ _ h];rfl,by rw [cell_of_row _ _ _ _ _ _ h];rfl,by rw [cell_of_row _ _ _ _ _ _ h];rfl,by rw [cell_of_row _ _ _ _ _ _ h];rfl,by rw [cell_of_row _ _ _ _ _ _ h];rfl,by rw [cell_of_row _ _ _ _ _ _ h];rfl⟩
theorem c7 {w:World} {b:Nat} {t:TypeId} {x0 x1 x2 x3 x4 x5 x6:Value} (h:w.heap[b]? = some (.cells #[x0,x1,x2,x3,x4,x5,x6] t (0,0))) :
  w.cell? ⟨b,0,none⟩=some x0/\w.cell? ⟨b,1,none⟩=some x1/\w.cell? ⟨b,2,none⟩=some x2/\w.cell? ⟨b,3,none⟩=some x3/\w.cell? ⟨b,4,none⟩=some x4/\w.cell? ⟨b,5,none⟩=some x5/\w.cell? ⟨b,6,none⟩=some x6 :=
 ⟨by rw [cell_of_row _ _ _ _ _ _ h];rfl,by rw [cell_of_row _ _ _ _ _ _ h];rfl,by rw [cell_of_row _ _ _ _ _ _ h];rfl,by rw [cell_of_row _ _ _ _ _ _ h];rfl,by rw [cell_of_row _ _ _ _ _ _ h];rfl,by rw [cell_of_row _ _ _ _ _ _ h];rfl,by rw [cell_of_row _ _ _ _ _ _ h];rfl⟩
def has (rs:List (List O)) (x:Int):Bool:=decide (0<=thr x) && (decide (thr x<rs.length) && decide (ind x<(Jc rs (thr x).toNat).length))
theorem qb0 {w w':World} (f:Fr [] w w') {b:Nat} {o:Obj} (h:w.heap[b]? = some o):w'.heap[b]? = some o:=f.heap h Ll
def sc (r:Nat):Value:=.agg #[.int .i64 2,.int .i64 4,.int .i64 200,.int .i64 1000,.slice (some ⟨r,0,none⟩) 1 1,.slice none 0 0,.slice none 0 0]
end Go.Proofs.YthokjbikomjhgaaGreatDoor.Og
namespace Go.Proofs.YthokjbikomjhgaaGreatDoor.Al
open Go.RowKit Ar
theorem q8s:Tryz.prog.eqGuardType Tryz.prog.depth 48=false:=by kernel_rfl
theorem qam (k i o n k' i' o' n':Int) (b b':Bool) (W:World):(binOp .neq 48 (.agg #[.int .i64 k,.int .i64 i,.int .i64 o,.int .i64 n,.bool b]) (.agg #[.int .i64 k',.int .i64 i',.int .i64 o',.int .i64 n',.bool b'])).run Tryz.prog W = .ok (.bool (!(k == k' && i == i' && o == o' && n == n' && b == b'))) W:=by
 have u3:=Tryz.underlying3;have u4:=Tryz.underlying4;have a3:(isAgg 3).run Tryz.prog W = .ok false W:=by kernel_rfl
 have a4:(isAgg 4).run Tryz.prog W = .ok false W:=by kernel_rfl
 have hS:Tryz.prog.underlying 48=some (.struct (Tryz.prog.fieldsOf 48)):=by kernel_rfl
 have hp:Tryz.prog.stoodInHeld 48=false:=by kernel_rfl
 rw [run_neq_struct,show (10000:Nat)=9999+1 from rfl,run_equalIn_agg W 9999 48 _ _ hS hp];simp only [Program.fieldsOf,Tryz.underlying48];go_simp;cases h1:k == k' <;> cases h2:i == i' <;> cases h3:o == o' <;> cases h4:n == n' <;> cases h5:b == b' <;> simp_all
def qaz (w:World) (p q p2 q2:Nat) (s:St) (v:Value) (wr:World):Prop:=∃ k:Nat,k<=s.l.length/\v = .int .i64 k/\Ar wr p q s/\Ref.Rar wr p2 q2 s/\Fr [] w wr
theorem alike_any (w:World) (p q p2 q2:Nat) (s:St) (A:Ar w p q s) (R:Ref.Rar w p2 q2 s) :
  Calls Tryz.prog 35 #[.pointer (some ⟨p,0,none⟩),.pointer (some ⟨p2,0,none⟩)] w fun e w'=>e = .returned (.bool true)/\Fr [] w w':=by
 obtain ⟨cap,hcap,r0,r1,r2,r3,r4,r5,r6,hc⟩:=Ref.Qk R;have hlo:=A.lo;have hhi:=A.hi;have i0:=qb r0;have i1:=qb r1;have i2:=qb r2;have i3:=qb r3;have i4:=qb r4;have i5:=qb r5;have i6:=qb r6;clear r0 r1 r2 r3 r4 r5 r6 hc;have hG:=q8s;have hne:=qam s.a.kind s.a.at_ s.a.old s.a.new s.a.kind s.a.at_ s.a.old s.a.new s.a.ok s.a.ok;simp only [beq_self_eq_true,Bool.and_self,Bool.not_true] at hne;go_enter Tryz.func35,Tryz.ntmps35;go_wp2_with fail;refine wiq ?_;repeat (go_big_quiet_step ((first | (go_at_call 44;exact Calls.in_same (qbl _ p q s (A.kept (In.fr _) Ll Ll))) | (go_at_call 30;exact Calls.in_same (Rn _ p q s (A.kept (In.fr _) Ll Ll))) | (go_at_call 31;exact Calls.in_ (qc7 _ p q s _ _ _ _ _ (A.kept (In.fr _) Ll Ll) rfl)))))
 refine wpQuiet_nil ?_;intro w1 F1;have A1:=A.kept F1;have R1:=R.kept F1;clear i0 i1 i2 i3 i4 i5 i6 A R hne hG;go_wp2_with fail;go_loopw [5] (fun v wr=>qaz w p q p2 q2 s v wr) (fun v _=>s.l.length - (intOf v).toNat);case atStart=>exact ⟨0,Nat.zero_le _,rfl,A1,R1,F1⟩
 case round =>
  obtain ⟨k,hk,rfl,Aq,Rq,Fq⟩:=hrel;clear A1 R1 F1 hcap;obtain ⟨cap,hcap,r0,r1,r2,r3,r4,r5,r6,hc⟩:=Ref.Qk Rq;clear r1 r2 r3 r4 r5 r6;by_cases hlt:k<s.l.length
  ·have hcell:=hc k hlt;have hpk:qw s.l k=nth s.l k:=Tf hlt;have b1:(0:Int)<=(k:Int):=by omega
   have b2:(k:Int)<(s.l.length:Int):=by omega
   have HP:=q9 hpk;have i0:=qb r0;have i1:=qb hcell;clear hc hpk;go_wp2_with fail;refine wiq ?_;repeat (go_big_quiet_step ((go_at_call 38;exact Calls.in_same (HP.out ▸ vk _ p q s k (Aq.kept (In.fr _) Ll Ll)))))
   refine wpQuiet_nil ?_;intro w5 F5;have A5:=Aq.kept F5;have R5:=Rq.kept F5;have G5:=Fq.trans F5;clear i0 i1 r0 hcell F5 Aq Rq Fq b1;go_wp2_with fail;go_roundw;case rel=>exact ⟨k+1,by omega,by go_num,A5,R5,G5⟩
   case measure=>simp [intOf];omega
  ·clear hc;go_wp2;go_ret;exact ⟨rfl,Fq⟩
end Go.Proofs.YthokjbikomjhgaaGreatDoor.Al
