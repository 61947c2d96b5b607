/- Parts. -/
import Derived.Test.YtbddhncgemeohaaGreatDoorYae
import Derived.Test.YtbddhncgemeohaaGreatDoorYaq
set_option linter.unusedVariables false
set_option linter.unusedSimpArgs false
set_option maxRecDepth 100000
set_option maxHeartbeats 12800000
namespace Go.Proofs.YtbddhncgemeohaaGreatDoor.Mx
open Go.RowKit Ar Ref Mp
theorem q57 (c:Cf) (key:Int) (w:World):Calls Tryz.prog 66 #[c.val,.int .i64 key] w (Mk w (fun w' B b=>q7o w' B b (Gt.new c key))):=by
 unfold Cf.val;have F0:=(Fr.refl [] w).alloc (.cells #[.int .i64 c.t,.int .i64 c.c,.int .i64 c.wd,.int .i64 c.v] 23);obtain ⟨c0,c1,c2,c3⟩:=Pl.xj (Go.heap_alloc_new w (.cells #[.int .i64 c.t,.int .i64 c.c,.int .i64 c.wd,.int .i64 c.v] 23));go_enter Tryz.func66,Tryz.ntmps66;go_wp2_with fail;generalize hw1:World.alloc w _=w1 at *;have k0:=qc c0;have k1:=qc c1;have k2:=qc c2;have k3:=qc c3;clear c0 c1 c2 c3;refine ze Me [] (fun w2 F2=>?_);refine epq [true,true,true,true,false,false,false,false] 4 (F2.mono) ?_;apply qh;refine ⟨fun wf Ff=>?_,?_⟩
 ·have k0:=qc (Ff.cell (k0 ⟨w1,Fr.refl _ _⟩) Ma);have k1:=qc (Ff.cell (k1 ⟨w1,Fr.refl _ _⟩) Ma);have k2:=qc (Ff.cell (k2 ⟨w1,Fr.refl _ _⟩) Ma);have k3:=qc (Ff.cell (k3 ⟨w1,Fr.refl _ _⟩) Ma);exact Ac
 clear k0 k1 k2 k3 hw1;refine eoq 4 (fun w3 F3=>?_);have E:=F2.trans F3;clear F2 F3;go_wp2_with fail;refine (X6 c key w3).mono ?_;rintro e w4 ⟨bw,rfl,hbw,k,F4⟩;have hE:=E.size;replace E:=E.trans F4;clear F4;go_wp2_with fail;refine qo ⟨E,?_⟩;refine eoq 5 (fun w5 F5=>?_);replace E:=E.trans F5;replace k:=Ob.up k F5;clear F5;go_wp2_with fail;refine qo ⟨E,?_⟩;refine eoq 6 (fun w5 F5=>?_);replace E:=E.trans F5;replace k:=Ob.up k F5;clear F5;have hk:=Ob.lt k;have og:qaq _ w5.heap.size (Gt.new c key) bw none:=Ob.new w5 122 ((Gt.new c key).cells bw none);unfold Gt.cells Gt.new vh at og;simp only at og;have FA:=(Fr.refl [] w5).alloc (.cells #[.int .i64 key,.int .i64 c.t,.int .i64 c.c,.int .i64 c.wd,.int .i64 c.v,.pointer (some ⟨bw,0,none⟩),.pointer none,.bool false] 122);have hE5:=E.size;go_wp2_with fail;refine qo ⟨E.trans FA,?_⟩;refine eoq 7 (fun w6 F6=>?_);have E2:=(E.trans FA).trans F6;have k2:=Ob.up k (FA.trans F6);have og2:=Ob.up og F6;clear k og E FA F6;generalize w5.heap.size=b at *;go_wp2_with fail;refine qo ⟨E2,?_⟩;refine zw Me (fun w7 F7=>?_);have E3:=qb (F0.trans (E2.trans F7));have HK:=qb (qd (Ob.up k2 F7) (Ob.up og2 F7));have hF0:=F0.size;clear k2 og2 E2 F7 F0;go_wp2_with fail;go_ret;refine ⟨b,[b,bw],rfl,⟨bw,none,[],HK.out.2,HK.out.1,⟨rfl,rfl⟩,by omega,by simp,by simp,rfl⟩,fun k hk=>?_,E3.out⟩;simp at hk;exact Ic
theorem Wh {w:World} {b:Nat} {T:TypeId} {x0 x1 x2 x3 x4 x5:Value} (h:Ob w b T #[x0,x1,x2,x3,x4,x5]) (y0 y1 y2 y3 y4 y5:Value) :
  Ob ((((((w.setCell ⟨b,0,none⟩ y0).setCell ⟨b,1,none⟩ y1).setCell ⟨b,2,none⟩ y2).setCell ⟨b,3,none⟩ y3).setCell ⟨b,4,none⟩ y4).setCell ⟨b,5,none⟩ y5) b T #[y0,y1,y2,y3,y4,y5]:=by
 have:=((((((h.set (i:=0) y0).set (i:=1) y1).set (i:=2) y2).set (i:=3) y3).set (i:=4) y4).set (i:=5) y5);rwa [show ((((((#[x0,x1,x2,x3,x4,x5]:Array Value).setIfInBounds 0 y0).setIfInBounds 1 y1).setIfInBounds 2 y2).setIfInBounds 3 y3).setIfInBounds 4 y4).setIfInBounds 5 y5 = #[y0,y1,y2,y3,y4,y5] from rfl] at this
theorem Wp {S:List Nat} {a w:World} {b:Nat} (h:Fr S a w) (hb:b∈S) (y0 y1 y2 y3 y4 y5:Value) :
  Fr S a ((((((w.setCell ⟨b,0,none⟩ y0).setCell ⟨b,1,none⟩ y1).setCell ⟨b,2,none⟩ y2).setCell ⟨b,3,none⟩ y3).setCell ⟨b,4,none⟩ y4).setCell ⟨b,5,none⟩ y5) :=
 (((((h.setCell' y0 hb).setCell' y1 hb).setCell' y2 hb).setCell' y3 hb).setCell' y4 hb).setCell' y5 hb
theorem Qf {w:World} {b:Nat} {T:TypeId} {x0 x1 x2 x3 x4 x5:Value} (h:Ob w b T #[x0,x1,x2,x3,x4,x5]):w.cell? ⟨b,0,none⟩=some x0/\w.cell? ⟨b,1,none⟩=some x1/\w.cell? ⟨b,2,none⟩=some x2/\w.cell? ⟨b,3,none⟩=some x3/\w.cell? ⟨b,4,none⟩=some x4/\w.cell? ⟨b,5,none⟩=some x5 :=
 ⟨h.cell rfl,h.cell rfl,h.cell rfl,h.cell rfl,h.cell rfl,h.cell rfl⟩
def FdAt (l:List It) (key:Int) (w0:World) (u:Value) (wr:World):Prop:=∃ k,k<=l.length/\u = .int .i64 (k:Nat)/\Fr [] w0 wr/\∀ j z,j<k->l[j]? = some z->z.k≠key
theorem q1e {l:List It} {key:Int} {k:Nat} {y:It} (hy:l[k]? = some y) (hk:y.k=key) (h:∀ j z,j<k->l[j]? = some z->z.k≠key):Xy l key=⟨0,decide (0<=q3d y.d),max 0 (q3d y.d),qae y.d,0,[]⟩:=by
 have:l.find? (fun y=>y.k == key)=some y:=by rw [List.find?_eq_some_iff_getElem];have hlt:=(List.getElem?_eq_some_iff.1 hy).1;refine ⟨by simpa using hk,k,hlt,(List.getElem?_eq_some_iff.1 hy).2,fun j hj=>?_⟩;exact Gz
 unfold Xy;rw [this]
theorem q0l {l:List It} {key:Int} (h:∀ (j:Nat) (z:It),l[j]? = some z->z.k≠key):Xy l key=⟨0,false,0,-1,0,[]⟩:=by
 have:l.find? (fun y=>y.k == key)=none:=by rw [List.find?_eq_none];exact Gv
 unfold Xy;rw [this]
def An0:Array Value:=#[.int .i64 0,.bool false,.int .i64 0,.int .i64 0,.int .i64 0,.slice none 0 0]
theorem q5m (l:List It) (key:Int) (v:Value) (w:World) (hl:l.length<=1000) (hs:Sq fT w v l) :
  Calls Tryz.prog 88 #[v,.int .i64 key] w fun e w'=>e = .returned (Yo (Xy l key) (.slice none 0 0))/\Fr [] w w':=by
 obtain ⟨a,cap,rfl,hcap,hmax,-⟩:=id hs;have F0:=(Fr.refl [] w).alloc (.cells An0 102);have oa:=Ob.new w 102 An0;unfold An0 at F0 oa;go_enter Tryz.func88,Tryz.ntmps88;go_wp2_with fail;generalize hw1:World.alloc w _=w1 at *;clear hw1;have hs1:=qb (hs.up F0);clear hs;have hw0:=oa.lt;generalize hb:w.heap.size=b at *;go_loopw [5] (fun u wr=>FdAt l key w1 u wr) (fun u _=>l.length - (intOf u).toNat);case atStart=>exact ⟨0,Nat.zero_le _,rfl,Fr.refl _ _,by omega⟩
 case round =>
  obtain ⟨k,hk,rfl,F,h1⟩:=hrel;have oa2:=oa.up F;have z:=oa2.frozen;have FF:=qb (F0.trans F);have c0:=oa2.cell (i:=0) rfl;have c1:=oa2.cell (i:=1) rfl;have c2:=oa2.cell (i:=2) rfl;have c3:=oa2.cell (i:=3) rfl;have c4:=oa2.cell (i:=4) rfl;have c5:=oa2.cell (i:=5) rfl;by_cases hlt:k<l.length
  ·obtain ⟨y,hy⟩:∃ y,l[k]? = some y:=⟨l[k],List.getElem?_eq_getElem hlt⟩;obtain ⟨g,off,rfl,d0,d1,d2⟩:=xo (hs1.out.up F) hy;by_cases hyk:y.k=key
   ·have HR:=qb (q1e hy hyk h1);have g1:(y.k == key)=true:=by simpa using hyk
    clear hyk hy h1;go_wp2_with fail;refine (q7y _ _).mono ?_;rintro e _ ⟨rfl,rfl⟩;go_wp2_with fail;refine (q7z _ _).mono ?_;rintro e _ ⟨rfl,rfl⟩;generalize hvv:q3d y.d=vv at *;generalize hwh:qae y.d=wh at *;have HVW:=qb (qd hvv hwh);clear hvv hwh;by_cases p1:0<vv
    ·have g2:decide (vv≥0)=true:=by simp;omega
     have HP:=qb p1;go_wp2_with fail;have o8:=Wh oa2 (.int .i64 0) (.bool true) (.int .i64 vv) (.int .i64 wh) (.int .i64 0) (.slice none 0 0);have F8:=Wp (b:=b) (Fr.refl [b] wr) (List.mem_singleton.2 rfl) (.int .i64 0) (.bool true) (.int .i64 vv) (.int .i64 wh) (.int .i64 0) (.slice none 0 0);obtain ⟨q0,q1,q2,q3,q4,q5⟩:=Qf o8;refine bodyPost_ret (v:=Yo ⟨0,true,vv,wh,0,[]⟩ (.slice none 0 0)) Ng rfl ⟨by rw [HR.out];rw [show decide (0<=vv)=true by have:=HP.out;simp;omega,show max 0 vv=vv by have:=HP.out;omega],FF.out.own F8 Ml⟩
    ·by_cases p2:vv=0
     ·have HP:=qb p2;subst p2;go_wp2_with fail;have o8:=Wh oa2 (.int .i64 0) (.bool true) (.int .i64 0) (.int .i64 wh) (.int .i64 0) (.slice none 0 0);have F8:=Wp (b:=b) (Fr.refl [b] wr) (List.mem_singleton.2 rfl) (.int .i64 0) (.bool true) (.int .i64 0) (.int .i64 wh) (.int .i64 0) (.slice none 0 0);obtain ⟨q0,q1,q2,q3,q4,q5⟩:=Qf o8;refine bodyPost_ret (v:=Yo ⟨0,true,0,wh,0,[]⟩ (.slice none 0 0)) Ng rfl ⟨by rw [HR.out];rfl,FF.out.own F8 Ml⟩
     ·have g2:decide (vv≥0)=false:=by simp;omega
      have HP:=qb (qd p1 p2);go_wp2_with fail;have o8:=Wh oa2 (.int .i64 0) (.bool false) (.int .i64 0) (.int .i64 wh) (.int .i64 0) (.slice none 0 0);have F8:=Wp (b:=b) (Fr.refl [b] wr) (List.mem_singleton.2 rfl) (.int .i64 0) (.bool false) (.int .i64 0) (.int .i64 wh) (.int .i64 0) (.slice none 0 0);obtain ⟨q0,q1,q2,q3,q4,q5⟩:=Qf o8;refine bodyPost_ret (v:=Yo ⟨0,false,0,wh,0,[]⟩ (.slice none 0 0)) Ng rfl ⟨by rw [HR.out];rw [show decide (0<=vv)=false by have:=HP.out;simp;omega,show max 0 vv=0 by have:=HP.out;omega],FF.out.own F8 Ml⟩
   ·have g1:(y.k == key)=false:=by simpa using hyk
    have HY:=qb (qd hy hyk);clear hyk hy;go_wp2_with fail;go_roundw
    case rel=>exact ⟨k+1,by omega,by go_num,F,fun j z hj hz=>by
     by_cases e:j=k
     ·subst e;rw [HY.out.1] at hz;cases hz;exact HY.out.2
     ·exact h1 j z Ly hz⟩
    case measure=>simp [intOf];omega
  ·obtain rfl:k=l.length:=by omega
   have HR:=qb (q0l (fun j z hz=>h1 j z (List.getElem?_eq_some_iff.1 hz).1 hz));clear h1;go_wp2_with fail;have o8:=Wh oa2 (.int .i64 0) (.bool false) (.int .i64 0) (.int .i64 (-1)) (.int .i64 0) (.slice none 0 0);have F8:=Wp (b:=b) (Fr.refl [b] wr) (List.mem_singleton.2 rfl) (.int .i64 0) (.bool false) (.int .i64 0) (.int .i64 (-1)) (.int .i64 0) (.slice none 0 0);obtain ⟨q0,q1,q2,q3,q4,q5⟩:=Qf o8;refine bodyPost_ret (v:=Yo ⟨0,false,0,-1,0,[]⟩ (.slice none 0 0)) Ng rfl ⟨by rw [HR.out],FF.out.own F8 Ml⟩
theorem Vk (g:Gt) (hg:q82 g) (hn:g.over=true->g.l≠none) (B:List Nat) (b:Nat) (w:World) (h:q7o w B b g) :
  Calls Tryz.prog 70 #[.pointer (some ⟨b,0,none⟩)] w fun e w'=>e = .returned (Yo g.answer (.slice none 0 0))/\Fr [] w w':=by
 obtain ⟨bw,lp,B2,h1,h2,h3,h4,h5,h6,rfl⟩:=h;have F0:=(Fr.refl [] w).alloc (.cells An0 102);have oa:=Ob.new w 102 An0;have h1':=h1;replace h1:=Ob.up h1 F0;have hlt:=Ob.lt h1';unfold An0 at F0 oa h1;obtain ⟨c0,c1,c2,c3,c4,c5,c6,c7⟩:=Za h1;cases ho:g.over with
 | false =>
  rw [ho] at c7;have HO:=qb ho;clear ho hn;have q0:=Qf oa;obtain ⟨q0,q1,q2,q3,q4,q5⟩:=q0;have z:=oa.frozen;go_enter Tryz.func70,Tryz.ntmps70;go_wp2_with fail;generalize hw1:World.alloc w _=w1 at *;generalize w.heap.size=br at *;obtain ⟨q0,q1,q2,q3,q4,q5⟩:=Qf oa;refine bodyPost_ret (v:=Yo Y3 (.slice none 0 0)) (by simp [results,Tryz.results70,go_sem,q0,q1,q2,q3,q4,q5,Yo,Y3]) rfl ⟨by unfold Gt.answer;rw [HO.out];rfl,F0⟩
 | true =>
  rw [ho] at c7;have HO:=qb ho;cases hl:g.l with
  | none=>exact absurd hl (hn ho)
  | some x =>
   rw [hl] at h3;obtain ⟨bl,rfl,lv,k1,k2,k3,rfl,k5⟩:=h3;unfold vh at c6;simp only at c6;have hxok:=hg.l x hl;have hlen:x.l.length<=1000:=by have:=hxok.len;have:=hxok.i1;omega
   have HA:=qb (show g.answer=Xy x.l g.key by unfold Gt.answer;rw [qg ho,hl]);clear ho hl hn;replace k1:=Ob.up k1 F0;replace k2:=Sq.up k2 F0;go_enter Tryz.func70,Tryz.ntmps70;go_wp2_with fail;generalize hw1:World.alloc w _=w1 at *;have hbr:bl≠w.heap.size/\b≠w.heap.size:=by have:=k5 bl Ma;omega
   have hlv:w.heap.size∉lv.ownBlock.toList:=by intro hi;have:=k5 _ (List.mem_cons_of_mem _ hi);omega
   generalize hbr0:w.heap.size=br at *;clear c0 c1 c2 c3 c4 c5 c6 c7;refine ze Me [br] (fun w2 F2=>?_);refine epq [true,true,true,true,true,true,true,true,true,true,true,true,false] 1 (F2.mono) ?_;apply qh;refine ⟨fun wf Ff=>?_,?_⟩
   ·have hf:qaq wf b g bw (some bl):=Ob.kept h1 Ff (by simp;exact hbr.2);obtain ⟨c0,c1,c2,c3,c4,c5,c6,c7⟩:=Za hf;unfold vh at c6;simp only at c6;have hk:vn wf bl (x.as lv):=Ob.kept k1 Ff (by simp;exact hbr.1);have y14:=(z6 hk).2.2.2.2.2.2.2.2.2.2.2.2.2.2;have hsq:=Sq.kept k2 Ff (by intro g hg hi;simp at hi;subst hi;exact hlv hg);have HF:=qb (show ∀ s:In wf,Calls Tryz.prog 88 #[lv,.int .i64 g.key] s.at_ fun e w'=>e = .returned (Yo (Xy x.l g.key) (.slice none 0 0))/\Fr [] s.at_ w' from fun s=>q5m x.l g.key lv _ hlen (hsq.up s.fr));have j0:=qc c0;have j6:=qc c6;have j14:=qc y14;rw [show (x.as lv).lv=lv from rfl] at j14;clear c0 c1 c2 c3 c4 c5 c6 c7 y14;simp only [sel];repeat (go_big_quiet_step ((go_at_call 88;exact Calls.in_ (HF.out _))))
    exact wpQuiet_nil rfl
   refine eoq 12 (fun w3 F3=>?_);have E:=F2.trans F3;replace oa:=oa.up E;clear F2 F3;obtain ⟨q0,q1,q2,q3,q4,q5⟩:=Qf oa;have z:=oa.frozen;generalize Xy x.l g.key=an at *;unfold Yo;go_wp2_with fail;have o8:=Wh oa (.int .i64 an.code) (.bool an.found) (.int .i64 an.val) (.int .i64 an.writer) (.int .i64 an.version) (.slice none 0 0);have F8:=Wp (b:=br) (Fr.refl [br] w3) (List.mem_singleton.2 rfl) (.int .i64 an.code) (.bool an.found) (.int .i64 an.val) (.int .i64 an.writer) (.int .i64 an.version) (.slice none 0 0);clear q0 q1 q2 q3 q4 q5 z oa;refine qo ⟨(E.mono).trans F8,?_⟩;refine zw Me (fun w4 F4=>?_);have o9:=o8.up F4;have G:=F0.trans E;have F9:=qb ((G.own F8 Ml).trans F4);clear o8 F8 F4;go_wp2_with fail;obtain ⟨q0,q1,q2,q3,q4,q5⟩:=Qf o9;refine bodyPost_ret (v:=Yo an (.slice none 0 0)) (by simp [results,Tryz.results70,go_sem,q0,q1,q2,q3,q4,q5,Yo]) rfl ⟨by rw [HA.out],F9.out⟩
theorem Y8 {A Y Z Y':List Nat} {n:Nat} (h:(A++(Y++Z)).Nodup) (hlt:∀ k,k∈A++(Y++Z)->k<n) (hY:Y'.Nodup) (hs:∀ k,k∈Y'->k∈Y\/n<=k):(A++(Y'++Z)).Nodup:=by
 rw [List.nodup_append] at h ⊢;obtain ⟨h1,h2,h3⟩:=h;rw [List.nodup_append] at h2 ⊢;obtain ⟨h4,h5,h6⟩:=h2;refine ⟨h1,⟨hY,h5,fun a ha b hb e=>?_⟩,fun a ha b hb e=>?_⟩
 ·subst e;rcases hs a ha with h | h
  ·exact h6 a h a hb rfl
  ·have:=hlt a (by simp [hb]);omega
 ·subst e;rcases List.mem_append.1 hb with h | h
  ·rcases hs a h with h' | h'
   ·exact h3 a ha a (by simp [h']) rfl
   ·have:=hlt a (by simp [ha]);omega
  ·exact h3 a ha a Nl rfl
theorem q2q {A Y Z Y':List Nat} {n:Nat} (hs:∀ k,k∈Y'->k∈Y\/n<=k):∀ k,k∈A++(Y'++Z)->k∈A++(Y++Z)\/n<=k:=by
 intro k hk;simp only [List.mem_append] at hk ⊢;rcases hk with h | h | h
 ·exact .inl (.inl h)
 ·exact (hs k h).imp (fun h=>.inr (.inl h)) id
 ·exact .inl (.inr (.inr h))
theorem qaf (v:Value):v.ownBlock.toList.Nodup:=by cases v.ownBlock <;> simp
theorem q06.nd {w:World} {B:List Nat} {b:Nat} {x:Lok} (h:q06 w B b x):B.Nodup:=by obtain ⟨lv,h1,h2,h3,rfl,h5⟩:=h;exact List.nodup_cons.2 ⟨h3,qaf lv⟩
def OpW (w:World) (B:List Nat) (o:Option Wk) (wp:Option Nat):Prop:=match o with | none=>wp=none/\B=[] | some y=>∃ bw,wp=some bw/\Z8 w bw y/\B=[bw]
theorem OpW.kept {S:List Nat} {w w':World} {B:List Nat} {o:Option Wk} {wp:Option Nat} (h:OpW w B o wp) (f:Fr S w w') (hS:∀ k,k∈B->k∉S):OpW w' B o wp:=by
 cases o with
 | none=>exact h
 | some x=>obtain ⟨bl,h1,h2,rfl⟩:=h;exact ⟨bl,h1,Ob.kept h2 f (hS _ Ma),rfl⟩
theorem OpW.lt {w:World} {B:List Nat} {o:Option Wk} {wp:Option Nat} (h:OpW w B o wp):∀ k,k∈B->k<w.heap.size:=by
 cases o with
 | none=>rw [h.2];simp
 | some x=>obtain ⟨bl,h1,h2,rfl⟩:=h;intro k hk;simp at hk;subst hk;exact Ob.lt h2
def Sn.cells (x:Sn) (bk:Nat) (wp lp:Option Nat) (iv:Value):Array Value:=#[.int .i64 x.c.t,.int .i64 x.c.c,.int .i64 x.c.wd,.int .i64 x.c.v,.int .i64 x.t,.int .i64 x.seq,.int .i64 x.lo,.int .i64 x.hi,.pointer (some ⟨bk,0,none⟩),vh wp,vh lp,.int .i64 x.line,.int .i64 x.at_,.int .i64 x.n,iv]
def Tp (w:World) (b:Nat) (x:Sn) (bk:Nat) (wp lp:Option Nat) (iv:Value):Prop:=Ob w b 127 (x.cells bk wp lp iv)
theorem zu {w:World} {b bk:Nat} {wp lp:Option Nat} {iv:Value} {x:Sn} (h:Tp w b x bk wp lp iv):w.cell? ⟨b,0,none⟩=some (.int .i64 x.c.t)/\w.cell? ⟨b,1,none⟩=some (.int .i64 x.c.c)/\w.cell? ⟨b,2,none⟩=some (.int .i64 x.c.wd)/\w.cell? ⟨b,3,none⟩=some (.int .i64 x.c.v)/\w.cell? ⟨b,4,none⟩=some (.int .i64 x.t)/\w.cell? ⟨b,5,none⟩=some (.int .i64 x.seq)/\w.cell? ⟨b,6,none⟩=some (.int .i64 x.lo)/\w.cell? ⟨b,7,none⟩=some (.int .i64 x.hi)/\w.cell? ⟨b,8,none⟩=some (.pointer (some ⟨bk,0,none⟩))/\w.cell? ⟨b,9,none⟩=some (vh wp)/\w.cell? ⟨b,10,none⟩=some (vh lp)/\w.cell? ⟨b,11,none⟩=some (.int .i64 x.line)/\w.cell? ⟨b,12,none⟩=some (.int .i64 x.at_)/\w.cell? ⟨b,13,none⟩=some (.int .i64 x.n)/\w.cell? ⟨b,14,none⟩=some (iv) :=
 ⟨h.cell rfl,h.cell rfl,h.cell rfl,h.cell rfl,h.cell rfl,h.cell rfl,h.cell rfl,h.cell rfl,h.cell rfl,h.cell rfl,h.cell rfl,h.cell rfl,h.cell rfl,h.cell rfl,h.cell rfl⟩
def Kr (w:World) (B:List Nat) (b:Nat) (x:Sn):Prop:=∃ bk wp lp iv Bw Bl,Tp w b x bk wp lp iv/\Yx w bk x.k/\OpW w Bw x.w wp/\OpL w Bl x.l lp/\Sq fT w iv x.items/\(∀ g,g∈iv.ownBlock.toList->g<w.heap.size)/\B=b :: bk :: (Bw++(Bl++iv.ownBlock.toList))/\B.Nodup
theorem Kr.lt {w:World} {B:List Nat} {b:Nat} {x:Sn} (h:Kr w B b x):∀ k,k∈B->k<w.heap.size:=by
 obtain ⟨bk,wp,lp,iv,Bw,Bl,h1,h2,h3,h4,h5,h6,rfl,h8⟩:=h;intro k hk;simp only [List.mem_cons,List.mem_append] at hk;rcases hk with rfl | rfl | hk | hk | hk
 ·exact Ob.lt h1
 ·exact Ob.lt h2
 ·exact h3.lt k hk
 ·exact h4.lt k hk
 ·exact h6 k hk
theorem Kr.kept {S:List Nat} {w w':World} {B:List Nat} {b:Nat} {x:Sn} (h:Kr w B b x) (f:Fr S w w') (hS:∀ k,k∈B->k∉S):Kr w' B b x:=by obtain ⟨bk,wp,lp,iv,Bw,Bl,h1,h2,h3,h4,h5,h6,rfl,h8⟩:=h;exact ⟨bk,wp,lp,iv,Bw,Bl,Ob.kept h1 f (hS _ Ma),Ob.kept h2 f (hS _ Ma),h3.kept f (fun k hk=>hS k Oi),h4.kept f (fun k hk=>hS k Oi),h5.kept f (fun k hk=>hS k (by simp only [List.mem_cons,List.mem_append];simp [hk])),fun g hg=>ql (h6 g hg) f.size,rfl,h8⟩
theorem q0q (c:Cf) (tt seq lo hi:Int) (w:World):Calls Tryz.prog 67 #[c.val,.int .i64 tt,.int .i64 seq,.int .i64 lo,.int .i64 hi] w (Mk w (fun w' B b=>Kr w' B b (Sn.new c tt seq lo hi))):=by
 unfold Cf.val;have F0:=(Fr.refl [] w).alloc (.cells #[.int .i64 c.t,.int .i64 c.c,.int .i64 c.wd,.int .i64 c.v] 23);obtain ⟨c0,c1,c2,c3⟩:=Pl.xj (Go.heap_alloc_new w (.cells #[.int .i64 c.t,.int .i64 c.c,.int .i64 c.wd,.int .i64 c.v] 23));go_enter Tryz.func67,Tryz.ntmps67;go_wp2_with fail;generalize hw1:World.alloc w _=w1 at *;refine ze Me [] (fun w2 F2=>?_);refine epq [true,true,true,true,true,true,true,true,false,false,false,false] 4 (F2.mono) ?_;apply qh;refine ⟨fun wf Ff=>?_,?_⟩
 ·have k0:=qc (Ff.cell c0 Ma);have k1:=qc (Ff.cell c1 Ma);have k2:=qc (Ff.cell c2 Ma);have k3:=qc (Ff.cell c3 Ma);exact Ac
 clear c0 c1 c2 c3 hw1;refine eoq 8 (fun w3 F3=>?_);have E:=F2.trans F3;clear F2 F3;go_wp2_with fail;refine (S5 c tt seq w3).mono ?_;rintro e w4 ⟨bk,rfl,hbk,k,F4⟩;have hE:=E.size;replace E:=E.trans F4;clear F4;go_wp2_with fail;refine qo ⟨E,?_⟩;refine eoq 9 (fun w5 F5=>?_);replace E:=E.trans F5;replace k:=Ob.up k F5;clear F5;go_wp2_with fail;refine qo ⟨E,?_⟩;refine eoq 10 (fun w5 F5=>?_);replace E:=E.trans F5;replace k:=Ob.up k F5;clear F5;have hk:=Ob.lt k;have og:Tp _ w5.heap.size (Sn.new c tt seq lo hi) bk none none (.slice none 0 0):=Ob.new w5 127 ((Sn.new c tt seq lo hi).cells bk none none (.slice none 0 0));unfold Sn.cells Sn.new vh at og;simp only at og;have FA:=(Fr.refl [] w5).alloc (.cells #[.int .i64 c.t,.int .i64 c.c,.int .i64 c.wd,.int .i64 c.v,.int .i64 tt,.int .i64 seq,.int .i64 lo,.int .i64 hi,.pointer (some ⟨bk,0,none⟩),.pointer none,.pointer none,.int .i64 10,.int .i64 0,.int .i64 0,.slice none 0 0] 127);have hE5:=E.size;go_wp2_with fail;refine qo ⟨E.trans FA,?_⟩;refine eoq 11 (fun w6 F6=>?_);have E2:=(E.trans FA).trans F6;have k2:=Ob.up k (FA.trans F6);have og2:=Ob.up og F6;clear k og E FA F6;generalize w5.heap.size=b at *;go_wp2_with fail;refine qo ⟨E2,?_⟩;refine zw Me (fun w7 F7=>?_);have E3:=qb (F0.trans (E2.trans F7));have HK:=qb (qd (Ob.up k2 F7) (Ob.up og2 F7));have hF0:=F0.size;clear k2 og2 E2 F7 F0;go_wp2_with fail;go_ret;refine ⟨b,[b,bk],rfl,⟨bk,none,none,.slice none 0 0,[],[],HK.out.2,HK.out.1,⟨rfl,rfl⟩,⟨rfl,rfl⟩,Sq.nil _,by simp [Value.ownBlock],by simp [Value.ownBlock],by simp;omega⟩,fun k hk=>?_,E3.out⟩;simp at hk;exact Ic
def qck (w:World) (b p q:Nat) (x:Sn) (bk:Nat) (wp:Option Nat) (iv:Value) (at_:Int) (e:Ending) (w':World):Prop:=∃ bl,e = .returned (.tuple #[])/\w.heap.size<=bl/\Tp w' b (x.chunk at_) bk wp (some bl) iv/\vn w' bl (Lok.new x.c at_ x.lo x.hi x.k.version)/\Fr [b] w w'
theorem Su (x:Sn) (at_:Int) (b bk p q:Nat) (wp lp:Option Nat) (iv:Value) (w:World) (h:Tp w b x bk wp lp iv) (hk:Yx w bk x.k) :
  Calls Tryz.prog 90 #[.pointer (some ⟨b,0,none⟩),.int .i64 at_] w (qck w b p q x bk wp iv at_):=by
 go_enter Tryz.func90,Tryz.ntmps90;refine qq Me ?_;refine yl 1 rfl Me Me Me rfl (fun _ _ d _ _ h=>by cases d <;> exact h) ?_;go_frame;refine yl 2 rfl Me Me Me rfl (fun _ _ d _ _ h=>by cases d <;> exact h) ?_;go_frame;refine za [] w #[true,true,true,true,true,true,true,true,true,true,true,true,true,true,true,true,true,true,true,true,true,true,true,true,true,false,false,false,false,false,false,false,false,false] 23 9 rfl ?_;refine jd [true,false,false,true,true,true,true,true,true,true,true,true,true,true,true,true,true,true,true,true,true,true,true,true,false,false,false,false,false,false,false,false,false,false] 1 (n:=35) (listed':=#[true,true,true,true,true,true,true,true,true,true,true,true,true,true,true,true,true,true,true,true,true,true,true,true,false,false,false,false,false,false,false,false,false,false]) rfl Me Me Me Me rfl Me (fun _ _ d _ _ h=>by cases d <;> exact h) ((Fr.refl _ w).drew) ?_;apply qh;refine ⟨fun wf Ff=>?_,?_⟩
 ·obtain ⟨c0,c1,c2,c3,c4,c5,c6,c7,c8,c9,c10,c11,c12,c13,c14⟩:=zu (Ob.up h Ff);have y5:=(jb (Ob.up hk Ff)).2.2.2.2.2.2.2.2.1;have j0:=qc c0;have j1:=qc c1;have j2:=qc c2;have j3:=qc c3;have j6:=qc c6;have j7:=qc c7;have j8:=qc c8;have j9:=qc y5;clear c0 c1 c2 c3 c4 c5 c6 c7 c8 c9 c10 c11 c12 c13 c14 y5;exact Ac
 refine loq 24 (fun w7 F7=>?_);have E:=((Fr.refl [] w).drew.trans F7);clear F7;go_wp2_with fail;refine (Kh x.c at_ x.lo x.hi x.k.version w7).mono ?_;rintro e w8 ⟨bl,rfl,hbl,m1,F8⟩;have hE:=E.size;replace E:=E.trans F8;clear F8;go_wp2_with fail;refine qo ⟨E,?_⟩;refine qy (k:=25) rfl Me (fun w10 F10=>?_);replace E:=E.trans F10;replace m1:vn w10 bl (Lok.new x.c at_ x.lo x.hi x.k.version):=Ob.up m1 F10;clear F10;have o10:Tp w10 b x bk wp lp iv:=Ob.up h E;have hbb:bl≠b:=by have:=Ob.lt h;omega
 obtain ⟨c0,c1,c2,c3,c4,c5,c6,c7,c8,c9,c10,c11,c12,c13,c14⟩:=zu o10;have z:=o10.frozen;have o11:Tp _ b (x.chunk at_) bk wp (some bl) iv:=Ob.set (Ob.set (Ob.set o10 (i:=12) (.int .i64 at_)) (i:=11) (.int .i64 1)) (i:=10) (.pointer (some ⟨bl,0,none⟩));have m11:vn _ bl (Lok.new x.c at_ x.lo x.hi x.k.version):=Ob.other (Ob.other (Ob.other m1 hbb (i:=12) (.int .i64 at_)) hbb (i:=11) (.int .i64 1)) hbb (i:=10) (.pointer (some ⟨bl,0,none⟩));have E11:=(((E.mono (T:=[b]) Ma).setCell' (b:=b) (i:=12) (.int .i64 at_) Ma).setCell' (b:=b) (i:=11) (.int .i64 1) Ma).setCell' (b:=b) (i:=10) (.pointer (some ⟨bl,0,none⟩)) Ma;go_wp2_with fail;go_end0;exact ⟨bl,rfl,by omega,o11,m11,E11⟩
end Go.Proofs.YtbddhncgemeohaaGreatDoor.Mx
