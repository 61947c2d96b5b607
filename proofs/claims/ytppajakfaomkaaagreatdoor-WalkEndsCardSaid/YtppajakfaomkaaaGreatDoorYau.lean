/- Parts. -/
import Derived.Test.YtppajakfaomkaaaGreatDoorYaj
import Derived.Test.YtppajakfaomkaaaGreatDoorYam
import Derived.Test.YtppajakfaomkaaaGreatDoorYaq
import Derived.Test.YtppajakfaomkaaaGreatDoorYas
import Derived.Test.YtppajakfaomkaaaGreatDoorYat
set_option linter.unusedVariables false
set_option linter.unusedSimpArgs false
set_option maxRecDepth 100000
set_option maxHeartbeats 12800000
namespace Go.Proofs.YtppajakfaomkaaaGreatDoor.Mx
open Go.RowKit Ar Ref
def Bd.cells (x:Bd) (vv lv gv wv:Value):Array Value:=#[.int .i64 x.c.t,.int .i64 x.c.c,.int .i64 x.c.wd,.int .i64 x.c.v,.int .i64 x.chunk,.int .i64 x.mate,.int .i64 x.after,vv,.int .i64 x.line,.int .i64 x.i,.int .i64 x.mn,.int .i64 x.at_,.int .i64 x.x.k,.int .i64 x.x.v,.int .i64 x.x.d,lv,gv,wv,.int .i64 x.repl,.int .i64 x.e]
def kz (w:World) (b:Nat) (x:Bd) (vv lv gv wv:Value):Prop:=Ob w b 242 (x.cells vv lv gv wv)
theorem zk {w:World} {b:Nat} {x:Bd} {vv lv gv wv:Value} (h:kz w b x vv lv gv wv):w.cell? ⟨b,0,none⟩=some (.int .i64 x.c.t)/\w.cell? ⟨b,1,none⟩=some (.int .i64 x.c.c)/\w.cell? ⟨b,2,none⟩=some (.int .i64 x.c.wd)/\w.cell? ⟨b,3,none⟩=some (.int .i64 x.c.v)/\w.cell? ⟨b,4,none⟩=some (.int .i64 x.chunk)/\w.cell? ⟨b,5,none⟩=some (.int .i64 x.mate)/\w.cell? ⟨b,6,none⟩=some (.int .i64 x.after)/\w.cell? ⟨b,7,none⟩=some vv/\w.cell? ⟨b,8,none⟩=some (.int .i64 x.line)/\w.cell? ⟨b,9,none⟩=some (.int .i64 x.i)/\w.cell? ⟨b,10,none⟩=some (.int .i64 x.mn)/\w.cell? ⟨b,11,none⟩=some (.int .i64 x.at_)/\w.cell? ⟨b,12,none⟩=some (.int .i64 x.x.k)/\w.cell? ⟨b,13,none⟩=some (.int .i64 x.x.v)/\w.cell? ⟨b,14,none⟩=some (.int .i64 x.x.d)/\w.cell? ⟨b,15,none⟩=some lv/\w.cell? ⟨b,16,none⟩=some gv/\w.cell? ⟨b,17,none⟩=some wv/\w.cell? ⟨b,18,none⟩=some (.int .i64 x.repl)/\w.cell? ⟨b,19,none⟩=some (.int .i64 x.e) :=
 ⟨h.cell rfl,h.cell rfl,h.cell rfl,h.cell rfl,h.cell rfl,h.cell rfl,h.cell rfl,h.cell rfl,h.cell rfl,h.cell rfl,h.cell rfl,h.cell rfl,h.cell rfl,h.cell rfl,h.cell rfl,h.cell rfl,h.cell rfl,h.cell rfl,h.cell rfl,h.cell rfl⟩
theorem Fr.two (b i j:Nat) (u v:Value) (w:World):Fr [b] w ((w.setCell ⟨b,i,none⟩ u).setCell ⟨b,j,none⟩ v):=(Fr.setCell _ (by simp)).setCell' _ (by simp)
theorem q63 {w:World} {B:Nat} {ss:List Sv} {gs:List (List It)} (h:Gr w B ss gs):∀ s,s∈ss->∀ k,k∈s.v.ownBlock.toList->B<=k:=by
 intro s hs k hk
 obtain ⟨i,hi,rfl⟩:=List.getElem_of_mem hs
 obtain ⟨g,hg⟩:∃ g,gs[i]? = some g:=⟨gs[i]'(by rw [<- h.1];exact hi),List.getElem?_eq_getElem _⟩
 exact z8 (h.2 i _ g (List.getElem?_eq_getElem hi) hg) k hk
theorem Zf {w:World} {B sz n:Nat} {E:TypeId} {v:Value} {xs:List Value} (h:w.ownsRow B E sz v n xs):∀ k,k∈v.ownBlock.toList->k<w.heap.size:=fun k hk=>(h.lt k (by simpa using hk)).2
theorem gr_lt {w:World} {B:Nat} {ss:List Sv} {gs:List (List It)} (h:Gr w B ss gs):∀ s,s∈ss->∀ k,k∈s.v.ownBlock.toList->k<w.heap.size:=by
 intro s hs k hk
 obtain ⟨i,hi,rfl⟩:=List.getElem_of_mem hs
 obtain ⟨g,hg⟩:∃ g,gs[i]? = some g:=⟨gs[i]'(by rw [<- h.1];exact hi),List.getElem?_eq_getElem _⟩
 exact Zf (h.2 i _ g (List.getElem?_eq_getElem hi) hg) k hk
theorem R4 (vs:List Int):∀ s:List It,(X6 vs s).length<=s.length
 | []=>by simp [X6]
 | x :: r=>by
  have:=R4 vs r
  unfold X6
  split <;> simp <;> omega
theorem S0 (l:List It) (vs:List Int):(Yz l vs).length<=l.length:=by
 have:=R4 vs (Z6 l);rw [Xb] at this;exact this
theorem Ua (x:Bd) (hc:x.c.Ok) (hi:-2<=x.i/\x.i<=40) (hl:x.l.length<=1000) (hvl:x.versions.length<=1000) (b:Nat) (w:World) (vv lv gv wv:Value) (h:kz w b x vv lv gv wv) (hV:Sq fI w vv x.versions) (hL:Sq fT w lv x.l) (nV:b∉vv.ownBlock.toList) (nL:b∉lv.ownBlock.toList) :
  Calls Tryz.prog 214 #[.pointer (some ⟨b,0,none⟩)] w fun e w'=>e = .returned (.tuple #[])/\(∃ gv',kz w' b x.on vv lv gv' wv/\((x.on.groups=x.groups/\gv'=gv)\/∃ ss,Sq fS w' gv' ss/\Gs w' ss x.on.groups/\(∀ k,k∈gv'.ownBlock.toList->w.heap.size<=k/\k<w'.heap.size)/\(∀ s,s∈ss->∀ k,k∈s.v.ownBlock.toList->w.heap.size<=k/\k<w'.heap.size)))/\Fr [b] w w':=by
 generalize hy:x.on=y
 have HY:=q9 hy
 have HV:=q9 (qc hV (qc hL (qc nV nL)))
 clear hy hV hL nV nL
 obtain ⟨c0,c1,c2,c3,c4,c5,c6,c7,c8,c9,c10,c11,c12,c13,c14,c15,c16,c17,c18,c19⟩:=zk h
 have z:=h.frozen
 go_enter Tryz.func214,Tryz.ntmps214
 go_wp2_with fail
 have h1:kz _ b { x with i:=x.i+1,line:=2 } vv lv gv wv:=Ob.set (Ob.set h (i:=9) (.int .i64 (x.i+1))) (i:=8) (.int .i64 2)
 have D1:Fr [b] w ((w.setCell ⟨b,9,none⟩ (.int .i64 (x.i+1))).setCell ⟨b,8,none⟩ (.int .i64 2)):=(Fr.setCell _ (by simp)).setCell' _ (by simp)
 clear c0 c1 c2 c3 c4 c5 c6 c7 c8 c9 c10 c11 c12 c13 c14 c15 c16 c17 c18 c19 z h
 generalize ((w.setCell ⟨b,9,none⟩ (.int .i64 (x.i+1))).setCell ⟨b,8,none⟩ (.int .i64 2))=w1 at *
 obtain ⟨c0,c1,c2,c3,-,c5,-,-,-,c9,-,-,-,-,-,-,-,-,-,-⟩:=zk h1
 have k0:=qb c0
 have k1:=qb c1
 have k2:=qb c2
 have k3:=qb c3
 have k5:=qb c5
 have k9:=qb c9
 clear c0 c1 c2 c3 c5 c9
 refine wiq ?_
 repeat (go_big_quiet_step ((go_at_call 208;exact Calls.in_ (We x.c _ hc _))))
 refine wpQuiet_nil ?_
 intro w2 F2
 have h2:kz w2 b { x with i:=x.i+1,line:=2 } vv lv gv wv:=Ob.up h1 F2
 have D2:=D1.then F2
 clear h1 D1 F2 k0 k1 k2 k3 k5 k9
 by_cases hv:kw x.c x.mate<=x.i+1
 ·have hn:y = { x with i:=x.i+1,groups:=xz (Yz x.l x.versions) x.c.c,line:=5 }:=by rw [<- HY.out];unfold Bd.on;simp [hv]
  subst hn
  obtain ⟨c0,c1,c2,c3,c4,c5,c6,c7,c8,c9,c10,c11,c12,c13,c14,c15,c16,c17,c18,c19⟩:=zk h2
  have z:=h2.frozen
  go_wp2_with fail
  have V2:=HV.out.1.kept D2 (fun k hk hi=>by simp at hi;subst hi;exact HV.out.2.2.1 hk)
  have L2:=HV.out.2.1.kept D2 (fun k hk hi=>by simp at hi;subst hi;exact HV.out.2.2.2 hk)
  have HO2:=q9 h2
  clear c0 c1 c2 c3 c4 c5 c6 c7 c8 c9 c10 c11 c12 c13 c14 c15 c16 c17 c18 c19
  refine qo (by kernel_rfl) ?_
  refine z6 [] w2 #[true,true,true,true,true,true,true,true,true,true,true,true,true,true,true,true,false,false,false] 16 3 rfl ?_
  refine lpq [true,true,true,true,true,true,true,true,true,false,true,true,true,true,true,false,false,false,false] 2 ((Fr.refl _ _).drew) ?_
  apply qg
  refine ⟨fun wf Ff=>?_,?_⟩
  ·obtain ⟨c0,c1,c2,c3,-,-,-,c7,-,-,-,-,-,-,-,c15,-,-,-,-⟩:=zk (Ob.up h2 Ff)
   have j1:=qb c1
   have j7:=qb c7
   have j15:=qb c15
   clear c0 c1 c2 c3 c7 c15
   simp only [sel]
   repeat (go_big_quiet_step (fail))
   exact wpQuiet_nil rfl
  refine loq 9 (fun w3 F3=>?_)
  have G3:=((Fr.refl [] w2).drew).trans F3
  go_wp2_with fail
  refine (q8i x.l x.versions lv vv _ hl hvl (L2.up G3) (V2.up G3)).mono ?_
  rintro e w4 ⟨⟨r,rfl,r4⟩,F4⟩
  have G4:=G3.trans F4
  clear F3 F4 G3
  go_wp2_with fail
  refine ql ⟨G4,?_⟩
  refine loq 15 (fun w5 F5=>?_)
  have G5:=G4.trans F5
  have r5:=qm r4 F5
  clear F5 G4 r4
  have HKL:=S0 x.l x.versions
  generalize hkt:Yz x.l x.versions=kt at *
  have HKT:=q9 hkt
  clear hkt
  go_wp2_with fail
  refine (q5p kt x.c.c r _ (by omega) (Sq.own (f:=fT) r5)).mono ?_
  rintro e w6 ⟨⟨u,ss,rfl,hss,r6,g6⟩,F6⟩
  have G6:=G5.trans F6
  have HSS:=q9 hss
  clear hss
  clear F6 r5
  go_wp2_with fail
  refine ql ⟨G6,?_⟩
  refine qx (k:=16) rfl (by kernel_rfl) (fun w7 F7=>?_)
  have G7:=G6.trans F7
  have h7:=Ob.up h2 G7
  have r7:=qm r6 F7
  have g7:=g6.gs.up F7
  have z:=h7.frozen
  obtain ⟨c0,c1,c2,c3,c4,c5,c6,c7,c8,c9,c10,c11,c12,c13,c14,c15,c16,c17,c18,c19⟩:=zk h7
  have HG:=q9 g6
  have HF7:=q9 F7.size
  have HB:=q9 G5.size
  obtain ⟨ua,uc,rfl,-,-,-⟩:=id (Sq.own (f:=fS) r7)
  have HW7:=q9 (qc h7 (qc r7 (qc g7 G7)))
  clear F7 G6 h2 r6 g6 h7 r7 g7 G7
  go_wp2_with fail
  go_end0
  exact ⟨rfl,⟨_,Ob.set (Ob.set HW7.out.1 (i:=16) _) (i:=8) _,.inr ⟨ss,(Sq.own (f:=fS) HW7.out.2.1).kept (Fr.two b 16 8 _ _ _) (fun k hk hi=>by simp at hi;subst hi;exact jd HW7.out.2.1 HW7.out.1 (by decide) hk),by rw [HKT.out];exact HW7.out.2.2.1.kept (Fr.two b 16 8 _ _ _) (fun s hs k hk hi=>by have hi2:k=b:=(by simpa using hi);have h1:=q63 HG.out s hs k hk;have h2:=HB.out;have h3:=Ob.lt HO2.out;omega),fun k hk=>⟨qh (qh D2.size HB.out) (z8 HW7.out.2.1 k (by simpa using hk)),qj (Zf HW7.out.2.1 k (by simpa using hk)) (Fr.two b 16 8 _ _ _).size⟩,fun s hs k hk=>⟨qh (qh D2.size HB.out) (q63 HG.out s hs k (by simpa using hk)),qj (gr_lt HG.out s hs k (by simpa using hk)) (qh HF7.out (Fr.two b 16 8 _ _ _).size)⟩⟩⟩,(D2.then HW7.out.2.2.2).trans (Fr.two b 16 8 _ _ _)⟩
 ·have hn:y = { x with i:=x.i+1,line:=2 }:=by rw [<- HY.out];unfold Bd.on;simp [hv]
  subst hn
  go_wp2_with fail
  go_end0
  exact ⟨rfl,⟨gv,h2,.inl rfl⟩,D2⟩
structure qc5 (x:Bd):Prop where
 c:x.c.Ok
 i0:-1<=x.i
 i1:x.i<=40
 l:x.l.length<=100
 v:x.versions.length<=100
theorem qa2 (x:Bd) (hl:x.line=3) (hc:x.c.Ok) (b p q:Nat) (s:St) (w:World) (vv lv gv wv:Value) (h:kz w b x vv lv gv wv) (hA:Rar w p q s) (hp:b≠p) (hq:b≠q) :
  Calls Tryz.prog 187 #[.pointer (some ⟨b,0,none⟩),.pointer (some ⟨p,0,none⟩)] w fun e w'=>e = .returned (.bool (decide ((x.step s).1.line=0)))/\kz w' b (x.step s).1 vv lv gv wv/\Rar w' p q (x.step s).2/\Fr [b,p,q] w w':=by
 generalize hy:x.step s=y
 have HY:=q9 hy
 clear hy
 obtain ⟨c0,c1,c2,c3,c4,c5,c6,c7,c8,c9,c10,c11,c12,c13,c14,c15,c16,c17,c18,c19⟩:=zk h
 rw [hl] at c8
 have z:=h.frozen
 go_enter Tryz.func187,Tryz.ntmps187
 go_wp2_with fail
 have k0:=qb c0
 have k1:=qb c1
 have k2:=qb c2
 have k3:=qb c3
 have k4:=qb c4
 have k5:=qb c5
 have k9:=qb c9
 clear c0 c1 c2 c3 c4 c5 c6 c7 c8 c9 c10 c11 c12 c13 c14 c15 c16 c17 c18 c19 z
 refine wiq ?_
 repeat (go_big_quiet_step ((go_at_call 207;exact Calls.in_ (xn x.c _ _ _ hc _))))
 refine wpQuiet_nil ?_
 intro w0 F0
 rw [show yj x.c x.chunk x.mate x.i=x.sa from rfl]
 have h0:kz w0 b x vv lv gv wv:=Ob.up h F0
 have A0:=hA.kept F0
 have D0:Fr [b,p,q] w w0:=F0.mono
 clear k0 k1 k2 k3 k4 k5 k9 h hA F0
 obtain ⟨c0,c1,c2,c3,c4,c5,c6,c7,c8,c9,c10,c11,c12,c13,c14,c15,c16,c17,c18,c19⟩:=zk h0
 rw [hl] at c8
 have z:=h0.frozen
 go_wp2_with fail
 clear c0 c1 c2 c3 c4 c5 c6 c7 c8 c9 c10 c11 c12 c13 c14 c15 c16 c17 c18 c19 z
 refine (Ref.zi _ p q s _ A0).mono ?_;rintro e w5 ⟨rfl,A5,F5⟩
 have h5:kz w5 b x vv lv gv wv:=Ob.kept h0 F5 (by simp;exact ⟨hp,hq⟩)
 have D5:=zm D0 F5 (by simp)
 clear A0 h0 D0 F5
 obtain ⟨c0,c1,c2,c3,c4,c5,c6,c7,c8,c9,c10,c11,c12,c13,c14,c15,c16,c17,c18,c19⟩:=zk h5
 have z:=h5.frozen
 have hn:y=({ x with x:=⟨qq s.l (wrap64 (x.sa+1)),x.x.v,x.x.d⟩,line:=4 },s.load (wrap64 (x.sa+1))):=by rw [<- HY.out];unfold Bd.step;simp [hl]
 subst hn
 go_wp2_with fail
 go_ret
 exact ⟨rfl,(Ob.set (Ob.set h5 (i:=12) (.int .i64 (qq s.l (wrap64 (x.sa+1))))) (i:=8) (.int .i64 4)),(Rar.set (Rar.set A5 hp hq (i:=12) (.int .i64 (qq s.l (wrap64 (x.sa+1))))) hp hq (i:=8) (.int .i64 4)),(Fr.setCell' (Fr.setCell' D5 (b:=b) (i:=12) (.int .i64 (qq s.l (wrap64 (x.sa+1)))) (by simp)) (b:=b) (i:=8) (.int .i64 4) (by simp))⟩
theorem qbh (x:Bd) (hl:x.line=7) (hc:x.c.Ok) (b p q:Nat) (s:St) (w:World) (vv lv gv wv:Value) (h:kz w b x vv lv gv wv) (hA:Rar w p q s) (hp:b≠p) (hq:b≠q) :
  Calls Tryz.prog 187 #[.pointer (some ⟨b,0,none⟩),.pointer (some ⟨p,0,none⟩)] w fun e w'=>e = .returned (.bool (decide ((x.step s).1.line=0)))/\kz w' b (x.step s).1 vv lv gv wv/\Rar w' p q (x.step s).2/\Fr [b,p,q] w w':=by
 generalize hy:x.step s=y
 have HY:=q9 hy
 clear hy
 obtain ⟨c0,c1,c2,c3,c4,c5,c6,c7,c8,c9,c10,c11,c12,c13,c14,c15,c16,c17,c18,c19⟩:=zk h
 rw [hl] at c8
 have z:=h.frozen
 go_enter Tryz.func187,Tryz.ntmps187
 go_wp2_with fail
 have k0:=qb c0
 have k1:=qb c1
 have k2:=qb c2
 have k3:=qb c3
 have k4:=qb c4
 have k5:=qb c5
 have k9:=qb c9
 clear c0 c1 c2 c3 c4 c5 c6 c7 c8 c9 c10 c11 c12 c13 c14 c15 c16 c17 c18 c19 z
 refine wiq ?_
 repeat (go_big_quiet_step ((go_at_call 207;exact Calls.in_ (xn x.c _ _ _ hc _))))
 refine wpQuiet_nil ?_
 intro w0 F0
 rw [show yj x.c x.chunk x.mate x.i=x.sa from rfl]
 have h0:kz w0 b x vv lv gv wv:=Ob.up h F0
 have A0:=hA.kept F0
 have D0:Fr [b,p,q] w w0:=F0.mono
 clear k0 k1 k2 k3 k4 k5 k9 h hA F0
 obtain ⟨c0,c1,c2,c3,c4,c5,c6,c7,c8,c9,c10,c11,c12,c13,c14,c15,c16,c17,c18,c19⟩:=zk h0
 rw [hl] at c8
 have z:=h0.frozen
 go_wp2_with fail
 clear c0 c1 c2 c3 c4 c5 c6 c7 c8 c9 c10 c11 c12 c13 c14 c15 c16 c17 c18 c19 z
 refine qy (by kernel_rfl) [p,q] (fun w2 F2=>?_)
 refine epq [true,true,true,true,true,true,true,true,true,true,false] 1 (F2.mono) ?_
 apply qg
 refine ⟨fun wf Ff=>?_,?_⟩
 ·have hf:kz wf b x vv lv gv wv:=Ob.kept h0 Ff (by simp;exact ⟨hp,hq⟩)
  obtain ⟨-,-,-,-,c4,-,-,-,-,-,-,c11,-,-,-,-,-,-,-,-⟩:=zk hf
  have k4:=qb c4
  have k11:=qb c11
  clear hf c4 c11
  simp only [sel]
  repeat (go_big_quiet_step (fail))
  exact wpQuiet_nil rfl
 refine eoq 10 (fun w3 F3=>?_)
 have E3:=F2.trans F3
 have A3:=A0.kept E3
 have h3:kz w3 b x vv lv gv wv:=Ob.up h0 E3
 have G3:=zm D0 E3 (by simp)
 clear F2 F3 A0 h0 D0
 go_wp2_with fail
 refine (Ref.yt _ p q s _ _ _ A3).mono ?_;rintro e w4 ⟨rfl,A4,F4⟩
 have E4:=(E3.mono (T:=[p,q]) (by simp)).trans F4
 have h4:kz w4 b x vv lv gv wv:=Ob.kept h3 F4 (by simp;exact ⟨hp,hq⟩)
 have G4:=zm G3 F4 (by simp)
 clear A3 h3 F4 G3 E3
 go_wp2_with fail
 refine ql ⟨E4,?_⟩
 refine zr (by kernel_rfl) (fun w5 F5=>?_)
 have D5:=G4.then F5
 have h5:kz w5 b x vv lv gv wv:=Ob.up h4 F5
 have A5:=A4.kept F5
 clear A4 h4 F5 G4 E4
 obtain ⟨c0,c1,c2,c3,c4,c5,c6,c7,c8,c9,c10,c11,c12,c13,c14,c15,c16,c17,c18,c19⟩:=zk h5
 have z:=h5.frozen
 have hn:y=({ x with line:=8 },s.swap (wrap64 (x.chunk+5)) 0 x.at_):=by rw [<- HY.out];unfold Bd.step;simp [hl]
 subst hn
 go_wp2_with fail
 go_ret
 exact ⟨rfl,(Ob.set h5 _),(Rar.set A5 hp hq _),(Fr.setCell' D5 _ (by simp))⟩
theorem qai (x:Bd) (hl:x.line=8) (hc:x.c.Ok) (b p q:Nat) (s:St) (w:World) (vv lv gv wv:Value) (h:kz w b x vv lv gv wv) (hA:Rar w p q s) (hp:b≠p) (hq:b≠q) :
  Calls Tryz.prog 187 #[.pointer (some ⟨b,0,none⟩),.pointer (some ⟨p,0,none⟩)] w fun e w'=>e = .returned (.bool (decide ((x.step s).1.line=0)))/\kz w' b (x.step s).1 vv lv gv wv/\Rar w' p q (x.step s).2/\Fr [b,p,q] w w':=by
 generalize hy:x.step s=y
 have HY:=q9 hy
 clear hy
 obtain ⟨c0,c1,c2,c3,c4,c5,c6,c7,c8,c9,c10,c11,c12,c13,c14,c15,c16,c17,c18,c19⟩:=zk h
 rw [hl] at c8
 have z:=h.frozen
 go_enter Tryz.func187,Tryz.ntmps187
 go_wp2_with fail
 have k0:=qb c0
 have k1:=qb c1
 have k2:=qb c2
 have k3:=qb c3
 have k4:=qb c4
 have k5:=qb c5
 have k9:=qb c9
 clear c0 c1 c2 c3 c4 c5 c6 c7 c8 c9 c10 c11 c12 c13 c14 c15 c16 c17 c18 c19 z
 refine wiq ?_
 repeat (go_big_quiet_step ((go_at_call 207;exact Calls.in_ (xn x.c _ _ _ hc _))))
 refine wpQuiet_nil ?_
 intro w0 F0
 rw [show yj x.c x.chunk x.mate x.i=x.sa from rfl]
 have h0:kz w0 b x vv lv gv wv:=Ob.up h F0
 have A0:=hA.kept F0
 have D0:Fr [b,p,q] w w0:=F0.mono
 clear k0 k1 k2 k3 k4 k5 k9 h hA F0
 obtain ⟨c0,c1,c2,c3,c4,c5,c6,c7,c8,c9,c10,c11,c12,c13,c14,c15,c16,c17,c18,c19⟩:=zk h0
 rw [hl] at c8
 have z:=h0.frozen
 go_wp2_with fail
 clear c0 c1 c2 c3 c4 c5 c6 c7 c8 c9 c10 c11 c12 c13 c14 c15 c16 c17 c18 c19 z
 refine (Ref.zi _ p q s _ A0).mono ?_;rintro e w5 ⟨rfl,A5,F5⟩
 have h5:kz w5 b x vv lv gv wv:=Ob.kept h0 F5 (by simp;exact ⟨hp,hq⟩)
 have D5:=zm D0 F5 (by simp)
 clear A0 h0 D0 F5
 obtain ⟨c0,c1,c2,c3,c4,c5,c6,c7,c8,c9,c10,c11,c12,c13,c14,c15,c16,c17,c18,c19⟩:=zk h5
 have z:=h5.frozen
 have hn:y=({ x with repl:=qq s.l (wrap64 (x.chunk+5)),line:=0 },s.load (wrap64 (x.chunk+5))):=by rw [<- HY.out];unfold Bd.step;simp [hl]
 subst hn
 go_wp2_with fail
 go_ret
 exact ⟨rfl,(Ob.set (Ob.set h5 (i:=18) (.int .i64 (qq s.l (wrap64 (x.chunk+5))))) (i:=8) (.int .i64 0)),(Rar.set (Rar.set A5 hp hq (i:=18) (.int .i64 (qq s.l (wrap64 (x.chunk+5))))) hp hq (i:=8) (.int .i64 0)),(Fr.setCell' (Fr.setCell' D5 (b:=b) (i:=18) (.int .i64 (qq s.l (wrap64 (x.chunk+5)))) (by simp)) (b:=b) (i:=8) (.int .i64 0) (by simp))⟩
theorem qal (x:Bd) (hl:x.line=1) (hx:qc5 x) (b p q:Nat) (s:St) (w:World) (vv lv gv wv:Value) (h:kz w b x vv lv gv wv) (hA:Rar w p q s) (hp:b≠p) (hq:b≠q) (hV:Sq fI w vv x.versions) (hL:Sq fT w lv x.l) (nV:b∉vv.ownBlock.toList/\p∉vv.ownBlock.toList/\q∉vv.ownBlock.toList) (nL:b∉lv.ownBlock.toList/\p∉lv.ownBlock.toList/\q∉lv.ownBlock.toList) :
  Calls Tryz.prog 187 #[.pointer (some ⟨b,0,none⟩),.pointer (some ⟨p,0,none⟩)] w fun e w'=>e = .returned (.bool (decide ((x.step s).1.line=0)))/\(∃ gv',kz w' b (x.step s).1 vv lv gv' wv/\(((x.step s).1.groups=x.groups/\gv'=gv)\/∃ ss,Sq fS w' gv' ss/\Gs w' ss (x.step s).1.groups/\(∀ k,k∈gv'.ownBlock.toList->w.heap.size<=k/\k<w'.heap.size)/\(∀ s,s∈ss->∀ k,k∈s.v.ownBlock.toList->w.heap.size<=k/\k<w'.heap.size)))/\Rar w' p q (x.step s).2/\Fr [b,p,q] w w':=by
 have hc:=hx.c
 generalize hy:x.step s=y
 have HY:=q9 hy
 clear hy
 obtain ⟨c0,c1,c2,c3,c4,c5,c6,c7,c8,c9,c10,c11,c12,c13,c14,c15,c16,c17,c18,c19⟩:=zk h
 rw [hl] at c8
 have z:=h.frozen
 go_enter Tryz.func187,Tryz.ntmps187
 go_wp2_with fail
 have k0:=qb c0
 have k1:=qb c1
 have k2:=qb c2
 have k3:=qb c3
 have k4:=qb c4
 have k5:=qb c5
 have k9:=qb c9
 clear c0 c1 c2 c3 c4 c5 c6 c7 c8 c9 c10 c11 c12 c13 c14 c15 c16 c17 c18 c19 z
 refine wiq ?_
 repeat (go_big_quiet_step ((go_at_call 207;exact Calls.in_ (xn x.c _ _ _ hc _))))
 refine wpQuiet_nil ?_
 intro w0 F0
 rw [show yj x.c x.chunk x.mate x.i=x.sa from rfl]
 have h0:kz w0 b x vv lv gv wv:=Ob.up h F0
 have A0:=hA.kept F0
 have D0:Fr [b,p,q] w w0:=F0.mono
 clear k0 k1 k2 k3 k4 k5 k9 h hA F0
 obtain ⟨c0,c1,c2,c3,c4,c5,c6,c7,c8,c9,c10,c11,c12,c13,c14,c15,c16,c17,c18,c19⟩:=zk h0
 rw [hl] at c8
 have z:=h0.frozen
 go_wp2_with fail
 clear c0 c1 c2 c3 c4 c5 c6 c7 c8 c9 c10 c11 c12 c13 c14 c15 c16 c17 c18 c19 z
 refine (Ref.zi _ p q s _ A0).mono ?_;rintro e w5 ⟨rfl,A5,F5⟩
 have h5:kz w5 b x vv lv gv wv:=Ob.kept h0 F5 (by simp;exact ⟨hp,hq⟩)
 have D5:=zm D0 F5 (by simp)
 clear A0 h0 D0 F5
 obtain ⟨c0,c1,c2,c3,c4,c5,c6,c7,c8,c9,c10,c11,c12,c13,c14,c15,c16,c17,c18,c19⟩:=zk h5
 have z:=h5.frozen
 go_wp2_with fail
 have h6:kz _ b { x with mn:=qq s.l (wrap64 x.chunk),i:=-1 } vv lv gv wv:=(Ob.set (Ob.set h5 (i:=10) (.int .i64 (qq s.l (wrap64 x.chunk)))) (i:=9) (.int .i64 (-1)))
 have A6:=(Rar.set (Rar.set A5 hp hq (i:=10) (.int .i64 (qq s.l (wrap64 x.chunk)))) hp hq (i:=9) (.int .i64 (-1)))
 have D6:=(Fr.setCell' (Fr.setCell' D5 (b:=b) (i:=10) (.int .i64 (qq s.l (wrap64 x.chunk))) (by simp)) (b:=b) (i:=9) (.int .i64 (-1)) (by simp))
 clear c0 c1 c2 c3 c4 c5 c6 c7 c8 c9 c10 c11 c12 c13 c14 c15 c16 c17 c18 c19 z h5 A5 D5
 generalize ((w5.setCell ⟨b,10,none⟩ (.int .i64 (qq s.l (wrap64 x.chunk)))).setCell ⟨b,9,none⟩ (.int .i64 (-1)))=w6 at *
 have V6:=hV.kept D6 (fun k hk hi=>by simp only [List.mem_cons,List.not_mem_nil,or_false] at hi;rcases hi with rfl | rfl | rfl;exact nV.1 hk;exact nV.2.1 hk;exact nV.2.2 hk)
 have L6:=hL.kept D6 (fun k hk hi=>by simp only [List.mem_cons,List.not_mem_nil,or_false] at hi;rcases hi with rfl | rfl | rfl;exact nL.1 hk;exact nL.2.1 hk;exact nL.2.2 hk)
 have hi0:=hx.i0
 have hi1:=hx.i1
 have hll:=hx.l
 have hvl:=hx.v
 refine (Ua { x with mn:=qq s.l (wrap64 x.chunk),i:=-1 } hc ⟨by simp only;omega,by simp only;omega⟩ (by simp only;omega) (by simp only;omega) b _ vv lv gv wv h6 V6 L6 nV.1 nL.1).mono ?_;rintro e w7 ⟨rfl,⟨gv',h7,hg⟩,F7⟩
 have A7:=A6.kept F7 (by simp;exact Ne.symm hp) (by simp;exact Ne.symm hq)
 have D7:=D6.trans (F7.mono (T:=[b,p,q]) (by simp))
 have HG:=q9 hg
 have HW:=q9 D6.size
 clear h6 A6 D6 V6 L6 hg F7 hi0 hi1 hll hvl
 generalize hyo:Bd.on { x with mn:=qq s.l (wrap64 x.chunk),i:=-1 } = yo at *
 have HYO:=q9 hyo
 clear hyo
 obtain ⟨c0,c1,c2,c3,c4,c5,c6,c7,c8,c9,c10,c11,c12,c13,c14,c15,c16,c17,c18,c19⟩:=zk h7
 have z:=h7.frozen
 go_wp2_with fail
 go_ret
 have hn:y=(yo,s.load (wrap64 x.chunk)):=by rw [<- HY.out,<- HYO.out];unfold Bd.step;simp [hl]
 subst hn
 exact ⟨rfl,⟨gv',h7,HG.out.imp id (fun ⟨ss,a1,a2,a3,a4⟩=>⟨ss,a1,a2,fun k hk=>⟨qh HW.out (a3 k hk).1,(a3 k hk).2⟩,fun s hs k hk=>⟨qh HW.out (a4 s hs k hk).1,(a4 s hs k hk).2⟩⟩)⟩,A7,D7⟩
theorem qbb (x:Bd) (hl:x.line=2) (hx:qc5 x) (b p q:Nat) (s:St) (w:World) (vv lv gv wv:Value) (h:kz w b x vv lv gv wv) (hA:Rar w p q s) (hp:b≠p) (hq:b≠q) (hV:Sq fI w vv x.versions) (hL:Sq fT w lv x.l) (nV:b∉vv.ownBlock.toList/\p∉vv.ownBlock.toList/\q∉vv.ownBlock.toList) (nL:b∉lv.ownBlock.toList/\p∉lv.ownBlock.toList/\q∉lv.ownBlock.toList) :
  Calls Tryz.prog 187 #[.pointer (some ⟨b,0,none⟩),.pointer (some ⟨p,0,none⟩)] w fun e w'=>e = .returned (.bool (decide ((x.step s).1.line=0)))/\(∃ gv',kz w' b (x.step s).1 vv lv gv' wv/\(((x.step s).1.groups=x.groups/\gv'=gv)\/∃ ss,Sq fS w' gv' ss/\Gs w' ss (x.step s).1.groups/\(∀ k,k∈gv'.ownBlock.toList->w.heap.size<=k/\k<w'.heap.size)/\(∀ s,s∈ss->∀ k,k∈s.v.ownBlock.toList->w.heap.size<=k/\k<w'.heap.size)))/\Rar w' p q (x.step s).2/\Fr [b,p,q] w w':=by
 have hc:=hx.c
 generalize hy:x.step s=y
 have HY:=q9 hy
 clear hy
 obtain ⟨c0,c1,c2,c3,c4,c5,c6,c7,c8,c9,c10,c11,c12,c13,c14,c15,c16,c17,c18,c19⟩:=zk h
 rw [hl] at c8
 have z:=h.frozen
 go_enter Tryz.func187,Tryz.ntmps187
 go_wp2_with fail
 have k0:=qb c0
 have k1:=qb c1
 have k2:=qb c2
 have k3:=qb c3
 have k4:=qb c4
 have k5:=qb c5
 have k9:=qb c9
 clear c0 c1 c2 c3 c4 c5 c6 c7 c8 c9 c10 c11 c12 c13 c14 c15 c16 c17 c18 c19 z
 refine wiq ?_
 repeat (go_big_quiet_step ((go_at_call 207;exact Calls.in_ (xn x.c _ _ _ hc _))))
 refine wpQuiet_nil ?_
 intro w0 F0
 rw [show yj x.c x.chunk x.mate x.i=x.sa from rfl]
 have h0:kz w0 b x vv lv gv wv:=Ob.up h F0
 have A0:=hA.kept F0
 have D0:Fr [b,p,q] w w0:=F0.mono
 clear k0 k1 k2 k3 k4 k5 k9 h hA F0
 obtain ⟨c0,c1,c2,c3,c4,c5,c6,c7,c8,c9,c10,c11,c12,c13,c14,c15,c16,c17,c18,c19⟩:=zk h0
 rw [hl] at c8
 have z:=h0.frozen
 go_wp2_with fail
 clear c0 c1 c2 c3 c4 c5 c6 c7 c8 c9 c10 c11 c12 c13 c14 c15 c16 c17 c18 c19 z
 refine (Ref.zi _ p q s _ A0).mono ?_;rintro e w5 ⟨rfl,A5,F5⟩
 have h5:kz w5 b x vv lv gv wv:=Ob.kept h0 F5 (by simp;exact ⟨hp,hq⟩)
 have D5:=zm D0 F5 (by simp)
 clear A0 h0 D0 F5
 obtain ⟨c0,c1,c2,c3,c4,c5,c6,c7,c8,c9,c10,c11,c12,c13,c14,c15,c16,c17,c18,c19⟩:=zk h5
 have z:=h5.frozen
 generalize hv:qq s.l x.sa=v at *
 have HV:=q9 hv
 clear hv
 by_cases hlt:v<3
 ·generalize hvw:Va v=vw at *
  have HVW:=q9 hvw
  clear hvw
  go_wp2_with (go_at_call 56;refine (V5 _ _).mono ?_;rintro e _ ⟨rfl,rfl⟩;rw [HVW.out])
  have h6:kz _ b { x with x:=⟨0,vw,0⟩,line:=3 } vv lv gv wv:=(Ob.set (Ob.set (Ob.set (Ob.set h5 (i:=12) (.int .i64 0)) (i:=13) (.int .i64 vw)) (i:=14) (.int .i64 0)) (i:=8) (.int .i64 3))
  have A6:=(Rar.set (Rar.set (Rar.set (Rar.set A5 hp hq (i:=12) (.int .i64 0)) hp hq (i:=13) (.int .i64 vw)) hp hq (i:=14) (.int .i64 0)) hp hq (i:=8) (.int .i64 3))
  have D6:=(Fr.setCell' (Fr.setCell' (Fr.setCell' (Fr.setCell' D5 (b:=b) (i:=12) (.int .i64 0) (by simp)) (b:=b) (i:=13) (.int .i64 vw) (by simp)) (b:=b) (i:=14) (.int .i64 0) (by simp)) (b:=b) (i:=8) (.int .i64 3) (by simp))
  clear c0 c1 c2 c3 c4 c5 c6 c7 c8 c9 c10 c11 c12 c13 c14 c15 c16 c17 c18 c19 z h5 A5 D5
  generalize ((((w5.setCell ⟨b,12,none⟩ (.int .i64 0)).setCell ⟨b,13,none⟩ (.int .i64 vw)).setCell ⟨b,14,none⟩ (.int .i64 0)).setCell ⟨b,8,none⟩ (.int .i64 3))=w6 at *
  have V6:=hV.kept D6 (fun k hk hi=>by simp only [List.mem_cons,List.not_mem_nil,or_false] at hi;rcases hi with rfl | rfl | rfl;exact nV.1 hk;exact nV.2.1 hk;exact nV.2.2 hk)
  have L6:=hL.kept D6 (fun k hk hi=>by simp only [List.mem_cons,List.not_mem_nil,or_false] at hi;rcases hi with rfl | rfl | rfl;exact nL.1 hk;exact nL.2.1 hk;exact nL.2.2 hk)
  have hi0:=hx.i0
  have hi1:=hx.i1
  have hll:=hx.l
  have hvl:=hx.v
  refine (Ua { x with x:=⟨0,vw,0⟩,line:=3 } hc ⟨by simp only;omega,by simp only;omega⟩ (by simp only;omega) (by simp only;omega) b _ vv lv gv wv h6 V6 L6 nV.1 nL.1).mono ?_;rintro e w7 ⟨rfl,⟨gv',h7,hg⟩,F7⟩
  have A7:=A6.kept F7 (by simp;exact Ne.symm hp) (by simp;exact Ne.symm hq)
  have D7:=D6.trans (F7.mono (T:=[b,p,q]) (by simp))
  have HG:=q9 hg
  have HW:=q9 D6.size
  clear h6 A6 D6 V6 L6 hg F7 hi0 hi1 hll hvl
  generalize hyo:Bd.on { x with x:=⟨0,vw,0⟩,line:=3 } = yo at *
  have HYO:=q9 hyo
  clear hyo
  obtain ⟨c0,c1,c2,c3,c4,c5,c6,c7,c8,c9,c10,c11,c12,c13,c14,c15,c16,c17,c18,c19⟩:=zk h7
  have z:=h7.frozen
  go_wp2_with fail
  go_ret
  have hn:y=(yo,s.load x.sa):=by rw [<- HY.out,<- HYO.out];unfold Bd.step;simp [hl,HV.out,hlt,HVW.out]
  subst hn
  exact ⟨rfl,⟨gv',h7,HG.out.imp id (fun ⟨ss,a1,a2,a3,a4⟩=>⟨ss,a1,a2,fun k hk=>⟨qh HW.out (a3 k hk).1,(a3 k hk).2⟩,fun s hs k hk=>⟨qh HW.out (a4 s hs k hk).1,(a4 s hs k hk).2⟩⟩)⟩,A7,D7⟩
 ·generalize hvw:Va v=vw at *
  have HVW:=q9 hvw
  clear hvw
  go_wp2_with (go_at_call 56;refine (V5 _ _).mono ?_;rintro e _ ⟨rfl,rfl⟩;rw [HVW.out])
  go_ret
  have hn:y=({ x with x:=⟨0,vw,0⟩,line:=3 },s.load x.sa):=by rw [<- HY.out];unfold Bd.step;simp [hl,HV.out,(show ¬ v<3 by omega),HVW.out]
  subst hn
  exact ⟨rfl,⟨gv,(Ob.set (Ob.set (Ob.set (Ob.set h5 _) (i:=13) (.int .i64 vw)) (i:=14) (.int .i64 0)) (i:=8) (.int .i64 3)),.inl ⟨rfl,rfl⟩⟩,(Rar.set (Rar.set (Rar.set (Rar.set A5 hp hq _) hp hq (i:=13) (.int .i64 vw)) hp hq (i:=14) (.int .i64 0)) hp hq (i:=8) (.int .i64 3)),(Fr.setCell' (Fr.setCell' (Fr.setCell' (Fr.setCell' D5 _ (by simp)) (b:=b) (i:=13) (.int .i64 vw) (by simp)) (b:=b) (i:=14) (.int .i64 0) (by simp)) (b:=b) (i:=8) (.int .i64 3) (by simp))⟩
theorem q1l {w:World} {a:Option Addr} {n cap i:Nat} {xs:List (Int×Int)} {x:Int×Int} (h:Sq fQ w (.slice a n cap) xs) (hi:xs[i]? = some x) :
  ∃ g off,a=some ⟨g,off,none⟩/\w.cell? ⟨g,off+i * 2,none⟩=some (.int .i64 x.1)/\w.cell? ⟨g,off+i * 2+1,none⟩=some (.int .i64 x.2):=by
 obtain ⟨-,g,off,rfl,hc⟩:=Sq.cell Ub h hi
 exact ⟨g,off,rfl,hc 0 _ rfl,hc 1 _ rfl⟩
theorem qb9 (x:Bd) (hl:x.line=6) (hc:x.c.Ok) (hi:0<=x.i/\x.i<(x.w.length:Int)) (hwl:x.w.length<=100000) (b p q:Nat) (s:St) (w:World) (vv lv gv wv:Value) (h:kz w b x vv lv gv wv) (hA:Rar w p q s) (hp:b≠p) (hq:b≠q) (hW:Sq fQ w wv x.w) (nW:b∉wv.ownBlock.toList/\p∉wv.ownBlock.toList/\q∉wv.ownBlock.toList) :
  Calls Tryz.prog 187 #[.pointer (some ⟨b,0,none⟩),.pointer (some ⟨p,0,none⟩)] w fun e w'=>e = .returned (.bool (decide ((x.step s).1.line=0)))/\kz w' b (x.step s).1 vv lv gv wv/\Rar w' p q (x.step s).2/\Fr [b,p,q] w w':=by
 generalize hy:x.step s=y
 have HY:=q9 hy
 clear hy
 obtain ⟨hi0,hi1⟩:=hi
 obtain ⟨av,cv,rfl,hcv,hmv,-⟩:=id hW
 obtain ⟨i,hxi⟩:∃ i:Nat,x.i=(i:Int):=⟨x.i.toNat,by omega⟩
 obtain ⟨u,hu⟩:∃ u,x.w[i]? = some u:=⟨x.w[i]'(by omega),List.getElem?_eq_getElem _⟩
 obtain ⟨g,off,rfl,-,-⟩:=q1l hW hu
 have HXI:=q9 hxi
 have hil:(i:Int)<(x.w.length:Int):=by omega
 have hil0:(0:Int)<=(i:Int):=by omega
 have HNT:=q9 (show x.nth=u by unfold Bd.nth;rw [hxi,Int.toNat_natCast,List.getD_eq_getElem?_getD,hu];rfl)
 have HW9:=q9 (qc hW (qc hu nW))
 clear hW hu nW hxi
 obtain ⟨c0,c1,c2,c3,c4,c5,c6,c7,c8,c9,c10,c11,c12,c13,c14,c15,c16,c17,c18,c19⟩:=zk h
 rw [hl] at c8
 have z:=h.frozen
 go_enter Tryz.func187,Tryz.ntmps187
 go_wp2_with fail
 have k0:=qb c0
 have k1:=qb c1
 have k2:=qb c2
 have k3:=qb c3
 have k4:=qb c4
 have k5:=qb c5
 have k9:=qb c9
 clear c0 c1 c2 c3 c4 c5 c6 c7 c8 c9 c10 c11 c12 c13 c14 c15 c16 c17 c18 c19 z
 refine wiq ?_
 repeat (go_big_quiet_step ((go_at_call 207;exact Calls.in_ (xn x.c _ _ _ hc _))))
 refine wpQuiet_nil ?_
 intro w0 F0
 rw [show yj x.c x.chunk x.mate x.i=x.sa from rfl]
 have h0:kz w0 b x vv lv gv (.slice (some ⟨g,off,none⟩) x.w.length cv):=Ob.up h F0
 have A0:=hA.kept F0
 have D0:Fr [b,p,q] w w0:=F0.mono
 have HW0:=q9 (HW9.out.1.up F0)
 clear k0 k1 k2 k3 k4 k5 k9 h hA F0
 obtain ⟨c0,c1,c2,c3,c4,c5,c6,c7,c8,c9,c10,c11,c12,c13,c14,c15,c16,c17,c18,c19⟩:=zk h0
 rw [hl] at c8
 have z:=h0.frozen
 go_wp2_with fail
 clear c0 c1 c2 c3 c4 c5 c6 c7 c8 c9 c10 c11 c12 c13 c14 c15 c16 c17 c18 c19 z
 refine qy (by kernel_rfl) [p,q] (fun w2 F2=>?_)
 refine epq [true,true,true,true,true,true,true,true,true,true,true,true,true,true,true,true,true,true,true,true,true,true,true,false] 1 (F2.mono) ?_
 apply qg
 refine ⟨fun wf Ff=>?_,?_⟩
 ·have hf:kz wf b x vv lv gv (.slice (some ⟨g,off,none⟩) x.w.length cv):=Ob.kept h0 Ff (by simp;exact ⟨hp,hq⟩)
  obtain ⟨-,-,-,-,-,-,-,-,-,c9,-,-,-,-,-,-,-,c17,-,-⟩:=zk hf
  rw [HXI.out] at c9
  obtain ⟨g',off',e1,d0,d1⟩:=q1l (HW0.out.kept Ff (fun k hk hi=>by simp only [List.mem_cons,List.not_mem_nil,or_false] at hi;rcases hi with rfl | rfl;exact HW9.out.2.2.2.1 hk;exact HW9.out.2.2.2.2 hk)) HW9.out.2.1
  simp only [Option.some.injEq,Addr.mk.injEq] at e1
  obtain ⟨rfl,rfl,-⟩:=e1
  have k20:=qb d0
  have k21:=qb d1
  clear d0 d1
  have k9:=qb c9
  have k17:=qb c17
  clear hf c9 c17
  simp only [sel]
  repeat (go_big_quiet_step (fail))
  exact wpQuiet_nil rfl
 refine eoq 23 (fun w3 F3=>?_)
 have E3:=F2.trans F3
 have A3:=A0.kept E3
 have h3:kz w3 b x vv lv gv (.slice (some ⟨g,off,none⟩) x.w.length cv):=Ob.up h0 E3
 have G3:=zm D0 E3 (by simp)
 clear F2 F3 A0 h0 D0
 go_wp2_with fail
 refine (Ref.jl _ p q s _ _ A3).mono ?_;rintro e w4 ⟨rfl,A4,F4⟩
 have E4:=(E3.mono (T:=[p,q]) (by simp)).trans F4
 have h4:kz w4 b x vv lv gv (.slice (some ⟨g,off,none⟩) x.w.length cv):=Ob.kept h3 F4 (by simp;exact ⟨hp,hq⟩)
 have G4:=zm G3 F4 (by simp)
 clear A3 h3 F4 G3 E3
 go_wp2_with fail
 refine ql ⟨E4,?_⟩
 refine zr (by kernel_rfl) (fun w5 F5=>?_)
 have D5:=G4.then F5
 have h5:kz w5 b x vv lv gv (.slice (some ⟨g,off,none⟩) x.w.length cv):=Ob.up h4 F5
 have A5:=A4.kept F5
 clear A4 h4 F5 G4 E4
 obtain ⟨c0,c1,c2,c3,c4,c5,c6,c7,c8,c9,c10,c11,c12,c13,c14,c15,c16,c17,c18,c19⟩:=zk h5
 have z:=h5.frozen
 rw [HXI.out] at c9
 go_wp2_with fail
 have h6:kz _ b { x with i:=(i:Int)+1 } vv lv gv (.slice (some ⟨g,off,none⟩) x.w.length cv):=(Ob.set h5 (i:=9) (.int .i64 ((i:Int)+1)))
 have A6:=(Rar.set A5 hp hq (i:=9) (.int .i64 ((i:Int)+1)))
 have D6:=(Fr.setCell' D5 (b:=b) (i:=9) (.int .i64 ((i:Int)+1)) (by simp))
 clear c0 c1 c2 c3 c4 c5 c6 c7 c8 c9 c10 c11 c12 c13 c14 c15 c16 c17 c18 c19 z h5 A5 D5
 generalize (w5.setCell ⟨b,9,none⟩ (.int .i64 ((i:Int)+1)))=w6 at *
 obtain ⟨c0,c1,c2,c3,c4,c5,c6,c7,c8,c9,c10,c11,c12,c13,c14,c15,c16,c17,c18,c19⟩:=zk h6
 have k9:=qb c9
 have k17:=qb c17
 clear c0 c1 c2 c3 c4 c5 c6 c7 c8 c9 c10 c11 c12 c13 c14 c15 c16 c17 c18 c19
 refine wiq ?_
 repeat (go_big_quiet_step (fail))
 refine wpQuiet_nil ?_
 intro w7 F7
 have h7:=Ob.up h6 F7
 have A7:=A6.kept F7
 have D7:=D6.then F7
 clear k9 k17 h6 A6 D6 F7
 obtain ⟨c0,c1,c2,c3,c4,c5,c6,c7,c8,c9,c10,c11,c12,c13,c14,c15,c16,c17,c18,c19⟩:=zk h7
 rw [show ({ x with i:=(i:Int)+1 }:Bd).line=6 from hl] at c8
 have z:=h7.frozen
 by_cases hge:(x.w.length:Int)<=(i:Int)+1
 ·go_wp2_with fail
  go_ret
  have hn:y=({ x with i:=(i:Int)+1,line:=7 },s.store u.1 u.2):=by rw [<- HY.out];unfold Bd.step;simp [hl,HNT.out,HXI.out,hge]
  subst hn
  exact ⟨rfl,Ob.set h7 _,Rar.set A7 hp hq _,Fr.setCell' D7 _ (by simp)⟩
 ·go_wp2_with fail
  go_ret
  have hn:y=({ x with i:=(i:Int)+1,line:=6 },s.store u.1 u.2):=by rw [<- HY.out];unfold Bd.step;simp [hl,HNT.out,HXI.out,(show ¬ (x.w.length:Int)<=(i:Int)+1 by omega)]
  subst hn
  exact ⟨rfl,by rw [<- hl];exact h7,A7,D7⟩
theorem qa4 (x:Bd) (hl:x.line=4) (hx:qc5 x) (b p q:Nat) (s:St) (w:World) (vv lv gv wv:Value) (h:kz w b x vv lv gv wv) (hA:Rar w p q s) (hp:b≠p) (hq:b≠q) (hV:Sq fI w vv x.versions) (hO:w.ownsRow 0 99 3 lv x.l.length (x.l.flatMap fT)) (nV:b∉vv.ownBlock.toList/\p∉vv.ownBlock.toList/\q∉vv.ownBlock.toList) (nL:b∉lv.ownBlock.toList/\p∉lv.ownBlock.toList/\q∉lv.ownBlock.toList) (nVL:∀ k,k∈vv.ownBlock.toList->k∉lv.ownBlock.toList) :
  Calls Tryz.prog 187 #[.pointer (some ⟨b,0,none⟩),.pointer (some ⟨p,0,none⟩)] w fun e w'=>e = .returned (.bool (decide ((x.step s).1.line=0)))/\(∃ lv' gv',kz w' b (x.step s).1 vv lv' gv' wv/\w'.ownsRow 0 99 3 lv' (x.step s).1.l.length ((x.step s).1.l.flatMap fT)/\(∀ k,k∈lv'.ownBlock.toList->k∈lv.ownBlock.toList\/w.heap.size<=k)/\(((x.step s).1.groups=x.groups/\gv'=gv)\/∃ ss,Sq fS w' gv' ss/\Gs w' ss (x.step s).1.groups/\(∀ k,k∈gv'.ownBlock.toList->w.heap.size<=k/\k<w'.heap.size)/\(∀ s,s∈ss->∀ k,k∈s.v.ownBlock.toList->w.heap.size<=k/\k<w'.heap.size)/\(∀ k,k∈lv'.ownBlock.toList->k∉gv'.ownBlock.toList/\∀ s,s∈ss->k∉s.v.ownBlock.toList)))/\Rar w' p q (x.step s).2/\Fr ([b,p,q]++lv.ownBlock.toList) w w':=by
 have hc:=hx.c
 generalize hy:x.step s=y
 have HY:=q9 hy
 clear hy
 obtain ⟨al,cl,rfl,hcl,hml,-⟩:=id (Sq.own (f:=fT) hO)
 obtain ⟨c0,c1,c2,c3,c4,c5,c6,c7,c8,c9,c10,c11,c12,c13,c14,c15,c16,c17,c18,c19⟩:=zk h
 rw [hl] at c8
 have z:=h.frozen
 go_enter Tryz.func187,Tryz.ntmps187
 go_wp2_with fail
 have k0:=qb c0
 have k1:=qb c1
 have k2:=qb c2
 have k3:=qb c3
 have k4:=qb c4
 have k5:=qb c5
 have k9:=qb c9
 clear c0 c1 c2 c3 c4 c5 c6 c7 c8 c9 c10 c11 c12 c13 c14 c15 c16 c17 c18 c19 z
 refine wiq ?_
 repeat (go_big_quiet_step ((go_at_call 207;exact Calls.in_ (xn x.c _ _ _ hc _))))
 refine wpQuiet_nil ?_
 intro w0 F0
 rw [show yj x.c x.chunk x.mate x.i=x.sa from rfl]
 have h0:kz w0 b x vv (.slice al x.l.length cl) gv wv:=Ob.up h F0
 have A0:=hA.kept F0
 have D0:Fr [b,p,q] w w0:=F0.mono
 clear k0 k1 k2 k3 k4 k5 k9 h hA F0
 obtain ⟨c0,c1,c2,c3,c4,c5,c6,c7,c8,c9,c10,c11,c12,c13,c14,c15,c16,c17,c18,c19⟩:=zk h0
 rw [hl] at c8
 have z:=h0.frozen
 go_wp2_with fail
 clear c0 c1 c2 c3 c4 c5 c6 c7 c8 c9 c10 c11 c12 c13 c14 c15 c16 c17 c18 c19 z
 refine (Ref.zi _ p q s _ A0).mono ?_;rintro e w5 ⟨rfl,A5,F5⟩
 have h5:kz w5 b x vv (.slice al x.l.length cl) gv wv:=Ob.kept h0 F5 (by simp;exact ⟨hp,hq⟩)
 have D5:=zm D0 F5 (by simp)
 clear A0 h0 D0 F5
 obtain ⟨c0,c1,c2,c3,c4,c5,c6,c7,c8,c9,c10,c11,c12,c13,c14,c15,c16,c17,c18,c19⟩:=zk h5
 have z:=h5.frozen
 generalize hv:qq s.l (wrap64 (x.sa+2))=v at *
 have HV:=q9 hv
 clear hv
 go_wp2_with fail
 have h6:kz _ b { x with x:=⟨x.x.k,x.x.v,v⟩ } vv (.slice al x.l.length cl) gv wv:=Ob.set h5 (i:=14) (.int .i64 v)
 have A6:=Rar.set A5 hp hq (i:=14) (.int .i64 v)
 have D6:=Fr.setCell' D5 (b:=b) (i:=14) (.int .i64 v) (by simp)
 clear c0 c1 c2 c3 c4 c5 c6 c7 c8 c9 c10 c11 c12 c13 c14 c15 c16 c17 c18 c19 z h5 A5 D5
 generalize (w5.setCell ⟨b,14,none⟩ (.int .i64 v))=w6 at *
 have r6:=kx hO D6 (fun k hk hi=>by simp only [List.mem_cons,List.not_mem_nil,or_false] at hi;have hk2:k∈(Value.slice al x.l.length cl).ownBlock.toList:=(by rw [hk];simp);rcases hi with rfl | rfl | rfl;exact nL.1 hk2;exact nL.2.1 hk2;exact nL.2.2 hk2)
 have V6:=hV.kept D6 (fun k hk hi=>by simp only [List.mem_cons,List.not_mem_nil,or_false] at hi;rcases hi with rfl | rfl | rfl;exact nV.1 hk;exact nV.2.1 hk;exact nV.2.2 hk)
 have nb:=nL.1
 have hlx:=hx.l
 have HN:=q9 (qc nV (qc nL nVL))
 clear hO hV nV nL nVL
 refine qo (by kernel_rfl) ?_
 refine z6 (Value.slice al x.l.length cl).ownBlock.toList w6 #[true,true,true,true,true,true,true,true,true,true,true,false,false,false] 11 3 rfl ?_
 refine lpq [true,true,true,true,true,true,true,true,true,false,false,false,false,false] 2 ((Fr.refl _ _).drew) ?_
 apply qg
 refine ⟨fun wf Ff=>?_,?_⟩
 ·obtain ⟨-,-,-,-,-,-,-,-,-,-,-,-,c12,c13,c14,c15,-,-,-,-⟩:=zk (Ob.kept h6 Ff nb)
  have k12:=qb c12
  have k13:=qb c13
  have k14:=qb c14
  have k15:=qb c15
  clear c12 c13 c14 c15
  simp only [sel]
  repeat (go_big_quiet_step (fail))
  exact wpQuiet_nil rfl
 refine loq 9 (fun w10 F10=>?_)
 have G:=((Fr.refl (Value.slice al x.l.length cl).ownBlock.toList w6).drew).then F10
 have r10:=qm r6 ((Fr.refl [] w6).drew.trans F10)
 clear F10
 go_wp2_with fail
 have F12:=(Fr.refl [] w10).alloc (.cells #[.int .i64 x.x.k,.int .i64 x.x.v,.int .i64 v] 99)
 have B12:=Go.heap_alloc_new w10 (.cells #[.int .i64 x.x.k,.int .i64 x.x.v,.int .i64 v] 99)
 have r12:=qm r10 F12
 replace G:=G.then F12
 clear r10 F12
 refine ql ⟨G,?_⟩
 refine loq 10 (fun w13 F13=>?_)
 have r22:=qm r12 F13
 have B22:=F13.heap B12 (by simp)
 replace G:=G.then F13
 clear r12 B12 F13
 go_wp2_with (at_builtin;go_loud (refine kr zh rfl _ _ 91 rfl Tryz.underlying91 itI rfl (B:=0) _ x.l rfl r22 _ [(⟨x.x.k,x.x.v,v⟩:It)] rfl (Sq.block B22 rfl rfl (Nat.le_refl _) (by simp [maxLen])) (by simp <;> omega) (by decide) (Nat.zero_le _) ?_);intro a23 c23 w23 r23 f23 n23)
 have HG0:=q9 G.size
 have hb6:=Ob.lt h6
 have hb7:=G.size
 have nb23:b∉(Value.slice a23 (x.l++[(⟨x.x.k,x.x.v,v⟩:It)]).length c23).ownBlock.toList:=fun hi=>by rcases n23 b hi with h | h;exact nb h;omega
 have N23:=q9 (fun k hk=>(n23 k hk).imp id (fun (e:k=_)=>(show w6.heap.size<=k by omega)))
 replace G:=G.trans f23
 clear f23 r22 B22 n23 hb6 hb7
 generalize hL2:x.l++[(⟨x.x.k,x.x.v,v⟩:It)]=l2 at *
 have HL2:=q9 hL2
 have HLL:=q9 (show l2.length=x.l.length+1 by rw [<- hL2];simp)
 clear hL2
 refine ql ⟨G,?_⟩
 refine qx (k:=11) rfl (by kernel_rfl) (fun w15 F15=>?_)
 have r15:=qm r23 F15
 replace G:=G.then F15
 clear r23 F15
 have h15:=Ob.kept h6 G nb
 have V15:=V6.kept G HN.out.2.2
 have A15:=A6.kept G HN.out.2.1.2.1 HN.out.2.1.2.2
 have z:=h15.frozen
 obtain ⟨c0,c1,c2,c3,c4,c5,c6,c7,c8,c9,c10,c11,c12,c13,c14,c15,c16,c17,c18,c19⟩:=zk h15
 have D15:Fr ([b,p,q]++(Value.slice al x.l.length cl).ownBlock.toList) w w15:=(D6.mono (by intro k hk;simp at hk ⊢;rcases hk with h | h | h <;> simp [h])).trans (G.mono (by intro k hk;simp at hk ⊢;simp [hk]))
 have D6s:=q9 D6.size
 clear h6 V6 A6 D6 G
 go_wp2_with fail
 have r16:w15.ownsRow 0 99 3 (.slice a23 (x.l.length+1) c23) l2.length (l2.flatMap fT):=by rw [<- HLL.out];exact r15
 rw [HLL.out] at nb23
 have h16:kz _ b { x with x:=⟨x.x.k,x.x.v,v⟩,l:=l2 } vv (.slice a23 (x.l.length+1) c23) gv wv:=Ob.set h15 (i:=15) (.slice a23 (x.l.length+1) c23)
 have SF:Fr [b] w15 (w15.setCell ⟨b,15,none⟩ (.slice a23 (x.l.length+1) c23)):=Fr.setCell _ (by simp)
 have A16:=Rar.set A15 hp hq (i:=15) (.slice a23 (x.l.length+1) c23)
 have r17:=kx r16 SF (fun g hg hi=>nb23 (by simp at hi;subst hi;rw [hg];simp))
 have V17:=V15.kept SF (fun k hk hi=>by simp at hi;subst hi;exact HN.out.1.1 hk)
 have D16:Fr ([b,p,q]++(Value.slice al x.l.length cl).ownBlock.toList) w _:=D15.trans (SF.mono (by intro k hk;simp at hk;simp [hk]))
 clear c0 c1 c2 c3 c4 c5 c6 c7 c8 c9 c10 c11 c12 c13 c14 c15 c16 c17 c18 c19 z h15 A15 D15 SF r16 r15 V15
 generalize (w15.setCell ⟨b,15,none⟩ (.slice a23 (x.l.length+1) c23))=w16 at *
 have hi0:=hx.i0
 have hi1:=hx.i1
 have hvl:=hx.v
 have hll:=HLL.out
 refine (Ua { x with x:=⟨x.x.k,x.x.v,v⟩,l:=l2 } hc ⟨by simp only;omega,by simp only;omega⟩ (by simp only;omega) (by simp only;omega) b _ vv _ gv wv h16 V17 (Sq.own (f:=fT) r17) HN.out.1.1 nb23).mono ?_;rintro e w7 ⟨rfl,⟨gv',h7,hg⟩,F7⟩
 have A7:=A16.kept F7 (by simp;exact Ne.symm hp) (by simp;exact Ne.symm hq)
 have D7:=D16.trans (F7.mono (T:=[b,p,q]++(Value.slice al x.l.length cl).ownBlock.toList) (by intro k hk;simp at hk;simp [hk]))
 have r7:=kx r17 F7 (fun g hg hi=>nb23 (by simp at hi;subst hi;rw [hg];simp))
 have HG:=q9 hg
 have HW:=q9 (qc D16.size (qc r7 (Zf r17)))
 have hlo:(Bd.on { x with x:=⟨x.x.k,x.x.v,v⟩,l:=l2 }).l=l2:=by unfold Bd.on;split <;> rfl
 have hgo:({ x with x:=⟨x.x.k,x.x.v,v⟩,l:=l2 }:Bd).groups=x.groups:=rfl
 generalize hyo:Bd.on { x with x:=⟨x.x.k,x.x.v,v⟩,l:=l2 } = yo at *
 have HYO:=q9 (qc hyo hlo)
 clear h16 A16 D16 V17 r17 r7 hg F7 hi0 hi1 hvl hll hyo hlo hgo nb23
 obtain ⟨c0,c1,c2,c3,c4,c5,c6,c7,c8,c9,c10,c11,c12,c13,c14,c15,c16,c17,c18,c19⟩:=zk h7
 have z:=h7.frozen
 go_wp2_with fail
 go_ret
 have hn:y=(yo,s.load (wrap64 (x.sa+2))):=by rw [<- HY.out,<- HYO.out.1,<- HL2.out];unfold Bd.step;simp [hl,HV.out]
 subst hn
 refine ⟨rfl,⟨_,gv',h7,?_,?_,?_⟩,A7,D7⟩
 ·rw [HYO.out.2];exact HW.out.2.1
 ·rw [<- HLL.out];exact fun k hk=>(N23.out k hk).imp id (fun e=>qh D6s.out e)
 ·refine HG.out.imp id (fun ⟨ss,a1,a2,a3,a4⟩=>⟨ss,a1,a2,fun k hk=>⟨qh HW.out.1 (a3 k hk).1,(a3 k hk).2⟩,fun s hs k hk=>⟨qh HW.out.1 (a4 s hs k hk).1,(a4 s hs k hk).2⟩,fun k hk=>⟨fun hi=>?_,fun s hs hi=>?_⟩⟩)
  ·have h1:=HW.out.2.2 k hk;have h2:=(a3 k hi).1;omega
  ·have h1:=HW.out.2.2 k hk;have h2:=(a4 s hs k hi).1;omega
theorem Jf {c:Cf} {cap:Nat} (hc:c.c=(cap:Int)) (at_ after least:Int) (gs:List (List It)):∀ n,n∈ym c at_ after least gs->n.its.length<=cap:=by
 intro n hn
 unfold ym at hn
 split at hn
 ·rename_i ha
  have h2:∀ g,g∈gs->g.length<=cap:=fun g hg=>by
   have h3:=List.all_eq_true.1 ha g hg
   have h4:(g.length:Int)<=c.c:=by simpa using h3
   rw [hc] at h4;omega
  clear ha
  generalize xo least gs=ms at hn
  induction gs generalizing at_ ms with
  | nil=>simp [jq] at hn
  | cons g r ih =>
   unfold jq at hn
   rcases List.mem_cons.1 hn with rfl | hn
   ·exact h2 g (by simp)
   ·exact ih _ (fun g' hg'=>h2 g' (by simp [hg'])) _ hn
 ·simp at hn
theorem Jr (c:Cf) (at_ after least:Int) (gs:List (List It)):(ym c at_ after least gs).length<=gs.length:=by
 unfold ym
 split
 ·rw [yn];exact Nat.le_refl _
 ·simp
theorem q1o {g:Nat} {c:Int} (hg:g<=100) (h2:0<=c) (h16:c<=16):wrap64 ((g:Int) * (7+3 * c))=(g:Int) * (7+3 * c)/\0<=(g:Int) * (7+3 * c)/\(g:Int) * (7+3 * c)<=5500:=by
 have h0:0<=(g:Int) * (7+3 * c):=Int.mul_nonneg (by omega) (by omega)
 have h1:(g:Int) * (7+3 * c)<=100 * 55:=Int.mul_le_mul (by omega) (by omega) (by omega) (by omega)
 exact ⟨w64 (by omega) (by omega),h0,by omega⟩
theorem qb2 (x:Bd) (hl:x.line=5) (hx:qc5 x) (hgl:x.groups.length<=100) (hgf:x.groups.flatten.length<=1000) (b p q:Nat) (s:St) (w:World) (vv lv gv wv:Value) (h:kz w b x vv lv gv wv) (hA:Rar w p q s) (hp:b≠p) (hq:b≠q) (ss:List Sv) (hG:Sq fS w gv ss) (hGs:Gs w ss x.groups) (nG:b∉gv.ownBlock.toList/\p∉gv.ownBlock.toList/\q∉gv.ownBlock.toList) (hnG:∀ s,s∈ss->b∉s.v.ownBlock.toList/\p∉s.v.ownBlock.toList/\q∉s.v.ownBlock.toList) :
  Calls Tryz.prog 187 #[.pointer (some ⟨b,0,none⟩),.pointer (some ⟨p,0,none⟩)] w fun e w'=>e = .returned (.bool (decide ((x.step s).1.line=0)))/\(∃ wv',kz w' b (x.step s).1 vv lv gv wv'/\(((x.step s).1.w=x.w/\wv'=wv)\/(Sq fQ w' wv' (x.step s).1.w/\∀ k,k∈wv'.ownBlock.toList->w.heap.size<=k/\k<w'.heap.size)))/\Rar w' p q (x.step s).2/\Fr [b,p,q] w w':=by
 have hc:=hx.c
 generalize hy:x.step s=y
 have HY:=q9 hy
 clear hy
 obtain ⟨ag,cg,rfl,hcg,hmg,-⟩:=id hG
 have hsl:=hGs.1
 have HGS:=q9 (qc hG (qc hGs (qc nG hnG)))
 rw [hsl] at h hcg ⊢
 have hcw:=hx.c.w2
 have hcw1:=hx.c.w1
 have hc16:=hx.c.c16
 have hc2:=hx.c.c2
 have hct:=hx.c.t1
 clear hG hGs nG hsl hnG
 obtain ⟨c0,c1,c2,c3,c4,c5,c6,c7,c8,c9,c10,c11,c12,c13,c14,c15,c16,c17,c18,c19⟩:=zk h
 rw [hl] at c8
 have z:=h.frozen
 go_enter Tryz.func187,Tryz.ntmps187
 go_wp2_with fail
 have k0:=qb c0
 have k1:=qb c1
 have k2:=qb c2
 have k3:=qb c3
 have k4:=qb c4
 have k5:=qb c5
 have k9:=qb c9
 clear c0 c1 c2 c3 c4 c5 c6 c7 c8 c9 c10 c11 c12 c13 c14 c15 c16 c17 c18 c19 z
 refine wiq ?_
 repeat (go_big_quiet_step ((go_at_call 207;exact Calls.in_ (xn x.c _ _ _ hc _))))
 refine wpQuiet_nil ?_
 intro w0 F0
 rw [show yj x.c x.chunk x.mate x.i=x.sa from rfl]
 have h0:kz w0 b x vv lv (.slice ag x.groups.length cg) wv:=Ob.up h F0
 have A0:=hA.kept F0
 have D0:Fr [b,p,q] w w0:=F0.mono
 clear k0 k1 k2 k3 k4 k5 k9 h hA F0
 obtain ⟨c0,c1,c2,c3,c4,c5,c6,c7,c8,c9,c10,c11,c12,c13,c14,c15,c16,c17,c18,c19⟩:=zk h0
 rw [hl] at c8
 have z:=h0.frozen
 go_wp2_with fail
 have k0:=qb c0
 have k1:=qb c1
 have k2:=qb c2
 have k3:=qb c3
 have k16:=qb c16
 clear c0 c1 c2 c3 c4 c5 c6 c7 c8 c9 c10 c11 c12 c13 c14 c15 c16 c17 c18 c19 z
 refine wiq ?_
 repeat (go_big_quiet_step ((go_at_call 98;exact Calls.in_ (Ref.Xl _ _ _ _ (by omega) (by omega) _))))
 refine wpQuiet_nil ?_
 intro w1 F1
 have h1:kz w1 b x vv lv (.slice ag x.groups.length cg) wv:=Ob.up h0 F1
 have A1:=A0.kept F1
 have D1:Fr [b,p,q] w w1:=D0.then F1
 clear k0 k1 k2 k3 k16 h0 A0 D0 F1
 obtain ⟨c0,c1,c2,c3,c4,c5,c6,c7,c8,c9,c10,c11,c12,c13,c14,c15,c16,c17,c18,c19⟩:=zk h1
 have z:=h1.frozen
 obtain ⟨hz1,hz2,hz3⟩:=q1o (c:=x.c.c) hgl (by omega) (by omega)
 rw [hz1]
 generalize hN:(x.groups.length:Int) * (7+3 * x.c.c)=N at *
 have HN:=q9 (qc hN hz1)
 clear hN hz1
 go_wp2_with fail
 clear c0 c1 c2 c3 c4 c5 c6 c7 c8 c9 c10 c11 c12 c13 c14 c15 c16 c17 c18 c19 z
 refine (Ref.Un _ p q s _ _ A1).mono ?_;rintro e w5 ⟨rfl,A5,F5⟩
 have h5:kz w5 b x vv lv (.slice ag x.groups.length cg) wv:=Ob.kept h1 F5 (by simp;exact ⟨hp,hq⟩)
 have D5:=zm D1 F5 (by simp)
 clear A1 h1 D1 F5
 obtain ⟨c0,c1,c2,c3,c4,c5,c6,c7,c8,c9,c10,c11,c12,c13,c14,c15,c16,c17,c18,c19⟩:=zk h5
 have z:=h5.frozen
 generalize hv:qq s.l 2=v at *
 have HV:=q9 hv
 clear hv
 go_wp2_with fail
 have h6:kz _ b { x with at_:=v } vv lv (.slice ag x.groups.length cg) wv:=Ob.set h5 (i:=11) (.int .i64 v)
 have A6:=Rar.set A5 hp hq (i:=11) (.int .i64 v)
 have D6:=Fr.setCell' D5 (b:=b) (i:=11) (.int .i64 v) (by simp)
 clear c0 c1 c2 c3 c4 c5 c6 c7 c8 c9 c10 c11 c12 c13 c14 c15 c16 c17 c18 c19 z h5 A5 D5
 generalize (w5.setCell ⟨b,11,none⟩ (.int .i64 v))=w6 at *
 have G6:Sq fS w6 (.slice ag x.groups.length cg) ss:=by have hk:=HGS.out.1.kept D6 (fun k hk hi=>by simp only [List.mem_cons,List.not_mem_nil,or_false] at hi;rcases hi with rfl | rfl | rfl;exact HGS.out.2.2.1.1 hk;exact HGS.out.2.2.1.2.1 hk;exact HGS.out.2.2.1.2.2 hk);rw [HGS.out.2.1.1] at hk;exact hk
 have S6:=HGS.out.2.1.kept D6 (fun s hs k hk hi=>by simp only [List.mem_cons,List.not_mem_nil,or_false] at hi;have h9:=HGS.out.2.2.2 s hs;rcases hi with rfl | rfl | rfl;exact h9.1 hk;exact h9.2.1 hk;exact h9.2.2 hk)
 obtain ⟨cap,hcap⟩:∃ cap:Nat,x.c.c=(cap:Int):=⟨x.c.c.toNat,by omega⟩
 have HCP:=q9 (qc hcap (qc (show 1<=cap by omega) (show cap<=16 by omega)))
 clear hcap
 refine qy (by kernel_rfl) [] (fun w7 F7=>?_)
 refine epq [true,true,true,true,true,true,true,true,true,true,true,true,true,true,true,true,true,true,true,true,false,false] 2 F7 ?_
 apply qg
 refine ⟨fun wf Ff=>?_,?_⟩
 ·obtain ⟨c0,c1,c2,c3,-,-,c6,-,-,-,c10,c11,-,-,-,-,c16,-,-,-⟩:=zk (Ob.up h6 Ff)
  have k0:=qb c0
  have k1:=qb c1
  have k2:=qb c2
  have k3:=qb c3
  have k6:=qb c6
  have k10:=qb c10
  have k11:=qb c11
  have k16:=qb c16
  clear c0 c1 c2 c3 c6 c10 c11 c16
  simp only [sel]
  repeat (go_big_quiet_step (fail))
  exact wpQuiet_nil rfl
 refine eoq 20 (fun w8 F8=>?_)
 have E8:=F7.trans F8
 clear F7 F8
 go_wp2_with fail
 refine (Rn x.c cap v x.after x.mn x.groups ss _ _ HCP.out.1 HCP.out.2.1 HCP.out.2.2 (by omega) hgf (G6.up E8) (S6.up E8)).mono ?_
 rintro e w9 ⟨⟨r,xs,rfl,hr9,hx9⟩,F9⟩
 replace E8:=E8.trans F9
 clear F9
 obtain ⟨ar,cr,rfl,hcr,hmr,-⟩:=id (Sq.own (f:=fH) hr9)
 have hns:=Jr x.c (wrap64 v) x.after x.mn x.groups
 have HIT:=q9 (Jf HCP.out.1 (wrap64 v) x.after x.mn x.groups)
 generalize hNS:ym x.c (wrap64 v) x.after x.mn x.groups=ns at *
 have HNS:=q9 (qc hNS hns)
 clear hNS hns
 go_wp2_with fail
 refine ql ⟨E8,?_⟩
 refine eoq 21 (fun wx Fx=>?_)
 replace E8:=E8.trans Fx
 have r10:=qm hr9 Fx
 have x10:=hx9.up Fx
 clear Fx hr9 hx9
 go_wp2_with fail
 refine ql ⟨E8,?_⟩
 refine zr (by kernel_rfl) (fun w11 F11=>?_)
 replace E8:=E8.trans F11
 have h11:=Ob.up h6 E8
 have A11:=A6.kept E8
 have D11:=D6.then E8
 have HX:=q9 (qc (qm r10 F11) (qc (x10.up F11) (qh D6.size E8.size)))
 have hxl:=x10.1
 clear r10 x10 F11 E8 h6 A6 D6 G6 S6
 have HXL:=q9 hxl
 clear hxl
 obtain ⟨c0,c1,c2,c3,-,-,-,-,-,-,-,c11,-,-,-,-,-,-,-,-⟩:=zk h11
 go_wp2_with fail
 by_cases h1:v<1
 ·have g1:decide (v<1)=true:=by simpa using h1
  have k2:=qb c2
  have k11:=qb c11
  clear c0 c1 c2 c3 c11
  refine wiq ?_
  repeat (go_big_quiet_step (fail))
  refine wpQuiet_nil ?_
  intro w12 F12
  have h12:=Ob.up h11 F12
  have A12:=A11.kept F12
  have D12:=D11.then F12
  have HX2:=q9 (qc (qm HX.out.1 F12) (qc (HX.out.2.1.up F12) (qh HX.out.2.2 F12.size)))
  clear k2 k11 h11 A11 D11 F12
  obtain ⟨c0,c1,c2,c3,c4,c5,c6,c7,c8,c9,c10,c11,c12,c13,c14,c15,c16,c17,c18,c19⟩:=zk h12
  have z:=h12.frozen
  go_wp2_with fail
  go_ret
  have hn:y=({ x with at_:=v,e:=14,line:=0 },s.add 2 N):=by
   rw [<- HY.out];unfold Bd.step;rw [qd (by omega),qd (by omega),qd (by omega),qd (by omega),qf hl]
   have e1:(x.groups.length:Int) * za x.c=N:=HN.out.1
   unfold Bd.five
   rw [HV.out,e1]
   simp only
   rw [HNS.out.1,qf (.inl h1)]
  subst hn
  exact ⟨rfl,⟨wv,Ob.set (Ob.set h12 _) (i:=8) (.int .i64 0),.inl ⟨rfl,rfl⟩⟩,Rar.set (Rar.set A12 hp hq _) hp hq (i:=8) (.int .i64 0),Fr.setCell' (Fr.setCell' D12 _ (by simp)) (b:=b) (i:=8) (.int .i64 0) (by simp)⟩
 ·have g1:decide (v<1)=false:=by simpa using h1
  by_cases h2:x.c.wd - N<v
  ·have g2:decide (v>x.c.wd - N)=true:=by simpa using h2
   have k2:=qb c2
   have k11:=qb c11
   clear c0 c1 c2 c3 c11
   refine wiq ?_
   repeat (go_big_quiet_step (fail))
   refine wpQuiet_nil ?_
   intro w12 F12
   have h12:=Ob.up h11 F12
   have A12:=A11.kept F12
   have D12:=D11.then F12
   have HX2:=q9 (qc (qm HX.out.1 F12) (qc (HX.out.2.1.up F12) (qh HX.out.2.2 F12.size)))
   clear k2 k11 h11 A11 D11 F12
   obtain ⟨c0,c1,c2,c3,c4,c5,c6,c7,c8,c9,c10,c11,c12,c13,c14,c15,c16,c17,c18,c19⟩:=zk h12
   have z:=h12.frozen
   go_wp2_with fail
   go_ret
   have hn:y=({ x with at_:=v,e:=14,line:=0 },s.add 2 N):=by
    rw [<- HY.out];unfold Bd.step;rw [qd (by omega),qd (by omega),qd (by omega),qd (by omega),qf hl]
    have e1:(x.groups.length:Int) * za x.c=N:=HN.out.1
    unfold Bd.five
    rw [HV.out,e1]
    simp only
    rw [HNS.out.1,qf (.inr (.inl h2))]
   subst hn
   exact ⟨rfl,⟨wv,Ob.set (Ob.set h12 _) (i:=8) (.int .i64 0),.inl ⟨rfl,rfl⟩⟩,Rar.set (Rar.set A12 hp hq _) hp hq (i:=8) (.int .i64 0),Fr.setCell' (Fr.setCell' D12 _ (by simp)) (b:=b) (i:=8) (.int .i64 0) (by simp)⟩
  ·have g2:decide (v>x.c.wd - N)=false:=by simpa using h2
   by_cases h3:xs.length=0
   ·have h3z:((xs.length:Nat):Int)=0:=by omega
    have HN0:=q9 (show ns=[] from List.eq_nil_of_length_eq_zero (by rw [<- HXL.out];exact h3))
    have k2:=qb c2
    have k11:=qb c11
    clear c0 c1 c2 c3 c11
    refine wiq ?_
    repeat (go_big_quiet_step (fail))
    refine wpQuiet_nil ?_
    intro w12 F12
    have h12:=Ob.up h11 F12
    have A12:=A11.kept F12
    have D12:=D11.then F12
    have HX2:=q9 (qc (qm HX.out.1 F12) (qc (HX.out.2.1.up F12) (qh HX.out.2.2 F12.size)))
    clear k2 k11 h11 A11 D11 F12
    obtain ⟨c0,c1,c2,c3,c4,c5,c6,c7,c8,c9,c10,c11,c12,c13,c14,c15,c16,c17,c18,c19⟩:=zk h12
    have z:=h12.frozen
    go_wp2_with fail
    go_ret
    have hn:y=({ x with at_:=v,e:=14,line:=0 },s.add 2 N):=by
     rw [<- HY.out];unfold Bd.step;rw [qd (by omega),qd (by omega),qd (by omega),qd (by omega),qf hl]
     have e1:(x.groups.length:Int) * za x.c=N:=HN.out.1
     unfold Bd.five
     rw [HV.out,e1]
     simp only
     rw [HNS.out.1,qf (.inr (.inr HN0.out))]
    subst hn
    exact ⟨rfl,⟨wv,Ob.set (Ob.set h12 _) (i:=8) (.int .i64 0),.inl ⟨rfl,rfl⟩⟩,Rar.set (Rar.set A12 hp hq _) hp hq (i:=8) (.int .i64 0),Fr.setCell' (Fr.setCell' D12 _ (by simp)) (b:=b) (i:=8) (.int .i64 0) (by simp)⟩
   ·have h3z:¬ ((xs.length:Nat):Int)=0:=by omega
    have HN0:=q9 (show ¬ ns=[] from fun e=>h3 (by rw [HXL.out,e];rfl))
    have k2:=qb c2
    have k11:=qb c11
    clear c0 c1 c2 c3 c11
    refine wiq ?_
    repeat (go_big_quiet_step (fail))
    refine wpQuiet_nil ?_
    intro w12 F12
    have h12:=Ob.up h11 F12
    have A12:=A11.kept F12
    have D12:=D11.then F12
    have HX2:=q9 (qc (qm HX.out.1 F12) (qc (HX.out.2.1.up F12) (qh HX.out.2.2 F12.size)))
    clear k2 k11 h11 A11 D11 F12
    obtain ⟨c0,c1,c2,c3,c4,c5,c6,c7,c8,c9,c10,c11,c12,c13,c14,c15,c16,c17,c18,c19⟩:=zk h12
    have z:=h12.frozen
    clear c0 c1 c2 c3 c4 c5 c6 c7 c8 c9 c10 c11 c12 c13 c14 c15 c16 c17 c18 c19 z
    go_wp2_with fail
    refine (q53 cap ns xs _ w12 HCP.out.2.2 (by have:=HNS.out.2;omega) HIT.out (Sq.own (f:=fH) HX2.out.1) HX2.out.2.1).mono ?_;rintro e w13 ⟨⟨u,rfl,r13⟩,F13⟩
    have h13:=Ob.up h12 F13
    have A13:=A12.kept F13
    have D13:=D12.then F13
    have z:=h13.frozen
    obtain ⟨c0,c1,c2,c3,c4,c5,c6,c7,c8,c9,c10,c11,c12,c13,c14,c15,c16,c17,c18,c19⟩:=zk h13
    obtain ⟨uw,cw,rfl,hcw9,hmw9,-⟩:=id (Sq.own (f:=fQ) r13)
    have nw:=jd r13 h13 (by decide)
    have HR13:=q9 (qc r13 HX2.out.2.2)
    clear h12 A12 D12 F13 r13
    generalize hWT:yz ns=wt at *
    have HWT:=q9 hWT
    clear hWT
    go_wp2_with fail
    go_ret
    have hn:y=({ x with at_:=v,w:=wt,i:=0,line:=6 },s.add 2 N):=by
     rw [<- HY.out];unfold Bd.step;rw [qd (by omega),qd (by omega),qd (by omega),qd (by omega),qf hl]
     have e1:(x.groups.length:Int) * za x.c=N:=HN.out.1
     unfold Bd.five
     rw [HV.out,e1]
     simp only
     rw [HNS.out.1,HWT.out,qd (by rintro (h | h | h);omega;omega;exact HN0.out h)]
    subst hn
    have SF:Fr [b] w13 (((w13.setCell ⟨b,17,none⟩ (.slice uw wt.length cw)).setCell ⟨b,9,none⟩ (.int .i64 0)).setCell ⟨b,8,none⟩ (.int .i64 6)):=((Fr.setCell _ (by simp)).setCell' _ (by simp)).setCell' _ (by simp)
    exact ⟨rfl,⟨_,Ob.set (Ob.set (Ob.set h13 _) (i:=9) (.int .i64 0)) (i:=8) (.int .i64 6),.inr ⟨(Sq.own (f:=fQ) HR13.out.1).kept SF (fun k hk hi=>by simp at hi;subst hi;exact nw hk),fun k hk=>⟨qh HR13.out.2 (z8 HR13.out.1 k (by simpa using hk)),qj (Zf HR13.out.1 k (by simpa using hk)) SF.size⟩⟩⟩,Rar.set (Rar.set (Rar.set A13 hp hq _) hp hq (i:=9) (.int .i64 0)) hp hq (i:=8) (.int .i64 6),D13.trans (SF.mono)⟩
theorem Ye (h:Int):∀ (n:Nat) (l:List It) (out:List (List It)) (cur:List It),(Qb h n l out cur).length<=out.length+n+1/\(Qb h n l out cur).flatten.length<=out.flatten.length+cur.length+l.length
 | 0,l,out,cur=>by unfold Qb;simp
 | n+1,l,out,cur=>by
  unfold Qb
  cases l with
  | nil=>simp
  | cons x r =>
   simp only
   have e:(r.takeWhile (fun y=>y.k == x.k)).length+(r.dropWhile (fun y=>y.k == x.k)).length=r.length:=by
    rw [<- List.length_append,List.takeWhile_append_dropWhile]
   split
   ·have:=Ye h n (r.dropWhile (fun y=>y.k == x.k)) (out++[cur]) (x :: r.takeWhile (fun y=>y.k == x.k))
    simp only [List.length_append,List.length_cons,List.length_nil,List.flatten_append,List.flatten_cons,List.flatten_nil] at this ⊢
    omega
   ·have:=Ye h n (r.dropWhile (fun y=>y.k == x.k)) out (cur++(x :: r.takeWhile (fun y=>y.k == x.k)))
    simp only [List.length_append,List.length_cons] at this ⊢
    omega
theorem q4k (l:List It) (cells:Int):(xz l cells).length<=l.length+1/\(xz l cells).flatten.length<=l.length:=by
 have:=Ye (Xq cells) l.length l [] []
 unfold xz
 simp at this
 simp;omega
structure Ze (x:Bd):Prop where
 c:x.c.Ok
 ln:1<=x.line/\x.line<=8
 v:x.versions.length<=100
 i1:x.line=1->x.i=0
 i4:2<=x.line/\x.line<=4->0<=x.i/\x.i<kw x.c x.mate/\(x.l.length:Int)<=x.i
 i5:x.line=5->0<=x.i/\x.i<=40
 l1:x.line=1->x.l=[]
 l:x.l.length<=40
 g:x.groups.length<=41/\x.groups.flatten.length<=40
 w:x.w.length<=100000
 w6:x.line=6->0<=x.i/\x.i<(x.w.length:Int)
 i0:-1<=x.i
theorem X3 {c:Cf} (h:c.Ok) (m:Int):3<=kw c m/\kw c m<=32:=by
 have h1:=h.c2;have h2:=h.c16;have h3:=h.t1
 unfold kw
 split <;> omega
theorem Ze.ok {x:Bd} (h:Ze x) (hl:x.line<=5):qc5 x:=by
 have h1:=h.i1;have h4:=h.i4;have h5:=h.i5;have hL:=h.l;have hv:=h.v;have h0:=h.i0;have hn:=h.ln
 have hc:=X3 h.c x.mate
 refine ⟨h.c,h0,?_,by omega,hv⟩
 rcases (by omega:x.line=1\/(2<=x.line/\x.line<=4)\/x.line=5) with e | e | e
 ·have:=h1 e;omega
 ·have:=h4 e;omega
 ·have:=h5 e;omega
theorem Ze.on {x:Bd} (hc:x.c.Ok) (hv:x.versions.length<=100) (hi:-1<=x.i/\x.i<kw x.c x.mate) (hl:(x.l.length:Int)<=x.i+1) (hg:x.groups.length<=41/\x.groups.flatten.length<=40) (hw:x.w.length<=100000):Ze x.on:=by
 have h1:=X3 hc x.mate
 unfold Bd.on
 split
 ·have h2:=q4k (Yz x.l x.versions) x.c.c
  have h3:=S0 x.l x.versions
  exact ⟨hc,by simp,hv,by simp,by simp,by simp;omega,by simp,by simp;omega,by simp only;omega,hw,by simp,by simp;omega⟩
 ·exact ⟨hc,by simp,hv,by simp,by simp;omega,by simp,by simp,by simp;omega,hg,hw,by simp,by simp;omega⟩
theorem q45 {ns:List Nk} (h:ns≠[]):0<(yz ns).length:=by
 cases ns with
 | nil=>exact absurd rfl h
 | cons n r=>unfold yz;rw [List.flatMap_cons,List.length_append];unfold Z9;simp;omega
theorem Ze.step {x:Bd} (h:Ze x) (s:St):(x.step s).1.line=0\/Ze (x.step s).1:=by
 obtain ⟨hc,hn,hv,h1,h4,h5,hl1,hl,hg,hw,h6,h0⟩:=h
 have hcl:=X3 hc x.mate
 rcases (by omega:x.line=1\/x.line=2\/x.line=3\/x.line=4\/x.line=5\/x.line=6\/x.line=7\/x.line=8) with e | e | e | e | e | e | e | e
 ·right;unfold Bd.step;rw [qf e]
  exact Ze.on (x:={ x with mn:=qq s.l (wrap64 x.chunk),i:=-1 }) hc hv ⟨by simp,by simp only;omega⟩ (by simp only;rw [hl1 e];simp) hg hw
 ·have h4':=h4 (by omega)
  right;unfold Bd.step;rw [qd (by omega),qf e];simp only
  split
  ·exact Ze.on (x:={ x with x:=⟨0,Va (qq s.l x.sa),0⟩,line:=3 }) hc hv ⟨by simp only;omega,by simp only;omega⟩ (by simp only;omega) hg hw
  ·exact ⟨hc,by simp,hv,by simp,fun _=>h4',by simp,by simp,hl,hg,hw,by simp,h0⟩
 ·have h4':=h4 (by omega)
  right;unfold Bd.step;rw [qd (by omega),qd (by omega),qf e]
  exact ⟨hc,by simp,hv,by simp,fun _=>h4',by simp,by simp,hl,hg,hw,by simp,h0⟩
 ·have h4':=h4 (by omega)
  right;unfold Bd.step;rw [qd (by omega),qd (by omega),qd (by omega),qf e];simp only
  exact Ze.on (x:={ x with x:=⟨x.x.k,x.x.v,qq s.l (wrap64 (x.sa+2))⟩,l:=x.l++[⟨x.x.k,x.x.v,qq s.l (wrap64 (x.sa+2))⟩] }) hc hv ⟨by simp only;omega,by simp only;omega⟩ (by simp;omega) hg hw
 ·have h5':=h5 e
  unfold Bd.step;rw [qd (by omega),qd (by omega),qd (by omega),qd (by omega),qf e];simp only
  unfold Bd.five;simp only
  split
  ·left;rfl
  ·rename_i hne
   right
   obtain ⟨cap,hcap⟩:∃ cap:Nat,x.c.c=(cap:Int):=⟨x.c.c.toNat,by have:=hc.c2;have:=hc.t1;omega⟩
   have e1:=Yq (cap:=cap) _ (Jf hcap (wrap64 (qq s.l 2)) x.after x.mn x.groups)
   have e2:=Jr x.c (wrap64 (qq s.l 2)) x.after x.mn x.groups
   have e3:(3+3 * cap) * (ym x.c (wrap64 (qq s.l 2)) x.after x.mn x.groups).length<=51 * 41:=Nat.mul_le_mul (by have:=hc.c16;omega) (by omega)
   have e4:=q45 (ns:=ym x.c (wrap64 (qq s.l 2)) x.after x.mn x.groups) (fun e=>hne (.inr (.inr e)))
   exact ⟨hc,by simp,hv,by simp,by simp,by simp,by simp,hl,hg,by simp only;omega,fun _=>by simp only;omega,by simp⟩
 ·have h6':=h6 e
  right;unfold Bd.step;rw [qd (by omega),qd (by omega),qd (by omega),qd (by omega),qd (by omega),qf e]
  by_cases hh:(x.w.length:Int)<=x.i+1
  ·rw [qf hh];exact ⟨hc,by simp,hv,by simp,by simp,by simp,by simp,hl,hg,hw,by simp,by simp only;omega⟩
  ·rw [qd hh];exact ⟨hc,by simp,hv,by simp,by simp,by simp,by simp,hl,hg,hw,by simp only;omega,by simp only;omega⟩
 ·right;unfold Bd.step;rw [qd (by omega),qd (by omega),qd (by omega),qd (by omega),qd (by omega),qd (by omega),qf e]
  exact ⟨hc,by simp,hv,by simp,by simp,by simp,by simp,hl,hg,hw,by simp,h0⟩
 ·left;unfold Bd.step;rw [qd (by omega),qd (by omega),qd (by omega),qd (by omega),qd (by omega),qd (by omega),qd (by omega),qf e]
theorem Ze.new {c:Cf} (hc:c.Ok) (chunk mate after:Int) {vs:List Int} (hv:vs.length<=100):Ze (Bd.new c chunk mate after vs) :=
 ⟨hc,by simp [Bd.new],hv,fun _=>rfl,by simp [Bd.new],by simp [Bd.new],fun _=>rfl,by simp [Bd.new],by simp [Bd.new],by simp [Bd.new],by simp [Bd.new],by simp [Bd.new]⟩
def Qn (vv gv wv:Value) (ss:List Sv):List Nat:=vv.ownBlock.toList++(gv.ownBlock.toList++(ss.flatMap (fun s=>s.v.ownBlock.toList)++wv.ownBlock.toList))
theorem zx {vv gv wv:Value} {ss:List Sv} {k:Nat}:k∈Qn vv gv wv ss↔k∈vv.ownBlock.toList\/k∈gv.ownBlock.toList\/(∃ s,s∈ss/\k∈s.v.ownBlock.toList)\/k∈wv.ownBlock.toList:=by
 unfold Qn;rw [List.mem_append,List.mem_append,List.mem_append,List.mem_flatMap]
structure BdPt (w:World) (b:Nat) (x:Bd) (vv lv gv wv:Value) (ss:List Sv):Prop where
 o:kz w b x vv lv gv wv
 v:Sq fI w vv x.versions
 l:w.ownsRow 0 99 3 lv x.l.length (x.l.flatMap fT)
 g:Sq fS w gv ss
 gs:Gs w ss x.groups
 sw:Sq fQ w wv x.w
 nl:b∉lv.ownBlock.toList
 nr:b∉Qn vv gv wv ss
 lr:∀ k,k∈lv.ownBlock.toList->k∉Qn vv gv wv ss
 lt:∀ k,k∈Qn vv gv wv ss->k<w.heap.size
def Sk (w:World) (B:List Nat) (b:Nat) (x:Bd):Prop:=∃ vv lv gv wv ss,BdPt w b x vv lv gv wv ss/\B=b :: (lv.ownBlock.toList++Qn vv gv wv ss)
theorem Sk.lt {w:World} {B:List Nat} {b:Nat} {x:Bd} (h:Sk w B b x):∀ k,k∈B->k<w.heap.size:=by
 obtain ⟨vv,lv,gv,wv,ss,h,rfl⟩:=h
 intro k hk
 rcases List.mem_cons.1 hk with rfl | hk
 ·exact Ob.lt h.o
 ·rcases List.mem_append.1 hk with hk | hk
  ·exact Zf h.l k hk
  ·exact h.lt k hk
theorem Sk.kept {S:List Nat} {w w':World} {B:List Nat} {b:Nat} {x:Bd} (h:Sk w B b x) (f:Fr S w w') (hS:∀ k,k∈B->k∉S):Sk w' B b x:=by
 obtain ⟨vv,lv,gv,wv,ss,h,rfl⟩:=h
 have hr:∀ k,k∈Qn vv gv wv ss->k∉S:=fun k hk=>hS k (by simp only [List.mem_cons,List.mem_append];exact .inr (.inr hk))
 have hl:∀ k,k∈lv.ownBlock.toList->k∉S:=fun k hk=>hS k (by simp only [List.mem_cons,List.mem_append];exact .inr (.inl hk))
 exact ⟨vv,lv,gv,wv,ss,⟨Ob.kept h.o f (hS b (by simp)),h.v.kept f (fun k hk=>hr k (zx.2 (.inl hk))),kx h.l f (fun g hg=>hl g (by rw [hg];simp)),h.g.kept f (fun k hk=>hr k (zx.2 (.inr (.inl hk)))),h.gs.kept f (fun s hs k hk=>hr k (zx.2 (.inr (.inr (.inl ⟨s,hs,hk⟩))))),h.sw.kept f (fun k hk=>hr k (zx.2 (.inr (.inr (.inr hk))))),h.nl,h.nr,h.lr,fun k hk=>qj (h.lt k hk) f.size⟩,rfl⟩
theorem U3 {w w':World} {b p q:Nat} {x x':Bd} {vv lv gv wv lv' gv' wv':Value} {ss:List Sv} (h:BdPt w b x vv lv gv wv ss) (hp:p∉b :: (lv.ownBlock.toList++Qn vv gv wv ss)) (hq:q∉b :: (lv.ownBlock.toList++Qn vv gv wv ss)) (F:Fr ([b,p,q]++lv.ownBlock.toList) w w')
  (ho:kz w' b x' vv lv' gv' wv') (hv:x'.versions=x.versions) (hl:w'.ownsRow 0 99 3 lv' x'.l.length (x'.l.flatMap fT)) (hl2:∀ k,k∈lv'.ownBlock.toList->k∈lv.ownBlock.toList\/w.heap.size<=k)
  (hg:(x'.groups=x.groups/\gv'=gv)\/∃ ss',Sq fS w' gv' ss'/\Gs w' ss' x'.groups/\(∀ k,k∈gv'.ownBlock.toList->w.heap.size<=k/\k<w'.heap.size)/\(∀ s,s∈ss'->∀ k,k∈s.v.ownBlock.toList->w.heap.size<=k/\k<w'.heap.size)/\(∀ k,k∈lv'.ownBlock.toList->k∉gv'.ownBlock.toList/\∀ s,s∈ss'->k∉s.v.ownBlock.toList))
  (hw:(x'.w=x.w/\wv'=wv)\/(Sq fQ w' wv' x'.w/\(∀ k,k∈wv'.ownBlock.toList->w.heap.size<=k/\k<w'.heap.size)/\∀ k,k∈lv'.ownBlock.toList->k∉wv'.ownBlock.toList)) :
  ∃ B',Sk w' B' b x'/\∀ k,k∈B'->k∈b :: (lv.ownBlock.toList++Qn vv gv wv ss)\/w.heap.size<=k:=by
 have hb:=Ob.lt h.o
 have hS:∀ k,k∈Qn vv gv wv ss->k∉[b,p,q]++lv.ownBlock.toList:=by
  intro k hk hi
  simp only [List.mem_append,List.mem_cons,List.not_mem_nil,or_false] at hi
  rcases hi with (rfl | rfl | rfl) | hi
  ·exact h.nr hk
  ·exact hp (by simp only [List.mem_cons,List.mem_append];exact .inr (.inr hk))
  ·exact hq (by simp only [List.mem_cons,List.mem_append];exact .inr (.inr hk))
  ·exact h.lr k hi hk
 have hv1:=h.v.kept F (fun k hk=>hS k (zx.2 (.inl hk)))
 rw [<- hv] at hv1
 have nl:b∉lv'.ownBlock.toList:=fun hi=>by rcases hl2 b hi with e | e;exact h.nl e;omega
 have old:∀ k,k∈Qn vv gv wv ss->k<w'.heap.size:=fun k hk=>qj (h.lt k hk) F.size
 have lold:∀ k,k∈lv'.ownBlock.toList->k∉Qn vv gv wv ss:=fun k hk hi=>by rcases hl2 k hk with e | e;exact h.lr k e hi;have:=h.lt k hi;omega
 have G:∃ ss',Sq fS w' gv' ss'/\Gs w' ss' x'.groups/\(∀ k,(k∈gv'.ownBlock.toList\/∃ s,s∈ss'/\k∈s.v.ownBlock.toList)->(k∈Qn vv gv wv ss\/(w.heap.size<=k/\k<w'.heap.size/\k∉lv'.ownBlock.toList))):=by
  rcases hg with ⟨e1,rfl⟩ | ⟨ss',a1,a2,a3,a4,a5⟩
  ·refine ⟨ss,h.g.kept F (fun k hk=>hS k (zx.2 (.inr (.inl hk)))),by rw [e1];exact h.gs.kept F (fun s hs k hk=>hS k (zx.2 (.inr (.inr (.inl ⟨s,hs,hk⟩))))),fun k hk=>.inl ?_⟩
   rcases hk with hk | ⟨s,hs,hk⟩
   ·exact zx.2 (.inr (.inl hk))
   ·exact zx.2 (.inr (.inr (.inl ⟨s,hs,hk⟩)))
  ·refine ⟨ss',a1,a2,fun k hk=>.inr ?_⟩
   rcases hk with hk | ⟨s,hs,hk⟩
   ·exact ⟨(a3 k hk).1,(a3 k hk).2,fun hi=>(a5 k hi).1 hk⟩
   ·exact ⟨(a4 s hs k hk).1,(a4 s hs k hk).2,fun hi=>(a5 k hi).2 s hs hk⟩
 have W:Sq fQ w' wv' x'.w/\∀ k,k∈wv'.ownBlock.toList->(k∈Qn vv gv wv ss\/(w.heap.size<=k/\k<w'.heap.size/\k∉lv'.ownBlock.toList)):=by
  rcases hw with ⟨e1,rfl⟩ | ⟨a1,a2,a3⟩
  ·exact ⟨by rw [e1];exact h.sw.kept F (fun k hk=>hS k (zx.2 (.inr (.inr (.inr hk))))),fun k hk=>.inl (zx.2 (.inr (.inr (.inr hk))))⟩
  ·exact ⟨a1,fun k hk=>.inr ⟨(a2 k hk).1,(a2 k hk).2,fun hi=>a3 k hi hk⟩⟩
 obtain ⟨ss',g1,g2,g3⟩:=G
 obtain ⟨w1,w2⟩:=W
 have all:∀ k,k∈Qn vv gv' wv' ss'->(k∈Qn vv gv wv ss\/(w.heap.size<=k/\k<w'.heap.size/\k∉lv'.ownBlock.toList)):=by
  intro k hk
  rcases zx.1 hk with hk | hk | hk | hk
  ·exact .inl (zx.2 (.inl hk))
  ·exact g3 k (.inl hk)
  ·exact g3 k (.inr hk)
  ·exact w2 k hk
 refine ⟨_,⟨vv,lv',gv',wv',ss',⟨ho,hv1,hl,g1,g2,w1,nl,fun hi=>?_,fun k hk hi=>?_,fun k hk=>?_⟩,rfl⟩,fun k hk=>?_⟩
 ·rcases all b hi with e | e
  ·exact h.nr e
  ·omega
 ·rcases all k hi with e | e
  ·exact lold k hk e
  ·exact e.2.2 hk
 ·rcases all k hk with e | e
  ·exact old k e
  ·exact e.2.1
 ·rcases List.mem_cons.1 hk with rfl | hk
  ·exact .inl (by simp)
  ·rcases List.mem_append.1 hk with hk | hk
   ·exact (hl2 k hk).imp (fun e=>by simp only [List.mem_cons,List.mem_append];exact .inr (.inl e)) id
   ·exact (all k hk).imp (fun e=>by simp only [List.mem_cons,List.mem_append];exact .inr (.inr e)) (fun e=>e.1)
theorem q2p (x:Bd) (hx:Ze x) (B:List Nat) (b p q:Nat) (s:St) (w:World) (h:Sk w B b x) (hA:Rar w p q s) (hp:p∉B) (hq:q∉B) :
  Calls Tryz.prog 187 #[.pointer (some ⟨b,0,none⟩),.pointer (some ⟨p,0,none⟩)] w (Stp w (fun w' B'=>Sk w' B' b (x.step s).1) B p q (x.step s).2 (decide ((x.step s).1.line=0))):=by
 obtain ⟨vv,lv,gv,wv,ss,h,rfl⟩:=h
 have hn:=hx.ln
 have hbp:b≠p:=fun e=>hp (by simp [e])
 have hbq:b≠q:=fun e=>hq (by simp [e])
 have rp:p∉Qn vv gv wv ss:=fun hi=>hp (by simp only [List.mem_cons,List.mem_append];exact .inr (.inr hi))
 have rq:q∉Qn vv gv wv ss:=fun hi=>hq (by simp only [List.mem_cons,List.mem_append];exact .inr (.inr hi))
 have lp:p∉lv.ownBlock.toList:=fun hi=>hp (by simp only [List.mem_cons,List.mem_append];exact .inr (.inl hi))
 have lq:q∉lv.ownBlock.toList:=fun hi=>hq (by simp only [List.mem_cons,List.mem_append];exact .inr (.inl hi))
 have nV:b∉vv.ownBlock.toList/\p∉vv.ownBlock.toList/\q∉vv.ownBlock.toList:=⟨fun hi=>h.nr (zx.2 (.inl hi)),fun hi=>rp (zx.2 (.inl hi)),fun hi=>rq (zx.2 (.inl hi))⟩
 have nG:b∉gv.ownBlock.toList/\p∉gv.ownBlock.toList/\q∉gv.ownBlock.toList:=⟨fun hi=>h.nr (zx.2 (.inr (.inl hi))),fun hi=>rp (zx.2 (.inr (.inl hi))),fun hi=>rq (zx.2 (.inr (.inl hi)))⟩
 have nS:∀ s,s∈ss->b∉s.v.ownBlock.toList/\p∉s.v.ownBlock.toList/\q∉s.v.ownBlock.toList:=fun s hs=>⟨fun hi=>h.nr (zx.2 (.inr (.inr (.inl ⟨s,hs,hi⟩)))),fun hi=>rp (zx.2 (.inr (.inr (.inl ⟨s,hs,hi⟩)))),fun hi=>rq (zx.2 (.inr (.inr (.inl ⟨s,hs,hi⟩))))⟩
 have nW:b∉wv.ownBlock.toList/\p∉wv.ownBlock.toList/\q∉wv.ownBlock.toList:=⟨fun hi=>h.nr (zx.2 (.inr (.inr (.inr hi)))),fun hi=>rp (zx.2 (.inr (.inr (.inr hi)))),fun hi=>rq (zx.2 (.inr (.inr (.inr hi))))⟩
 have nL:b∉lv.ownBlock.toList/\p∉lv.ownBlock.toList/\q∉lv.ownBlock.toList:=⟨h.nl,lp,lq⟩
 have nVL:∀ k,k∈vv.ownBlock.toList->k∉lv.ownBlock.toList:=fun k hk hi=>h.lr k hi (zx.2 (.inl hk))
 have hL:=Sq.own (f:=fT) h.l
 have sub3:∀ k,k∈[b,p,q]++lv.ownBlock.toList->k∈p :: q :: b :: (lv.ownBlock.toList++Qn vv gv wv ss):=by
  intro k hk
  simp only [List.mem_append,List.mem_cons,List.not_mem_nil,or_false] at hk ⊢
  rcases hk with (hk | hk | hk) | hk <;> simp [hk]
 have sub1:∀ k,k∈[b,p,q]->k∈[b,p,q]++lv.ownBlock.toList:=fun k hk=>List.mem_append_left _ hk
 have same:∀ (e:Ending) (w':World),(x.step s).1.versions=x.versions->(x.step s).1.l=x.l->(x.step s).1.groups=x.groups->(x.step s).1.w=x.w ->
   (e = .returned (.bool (decide ((x.step s).1.line=0)))/\kz w' b (x.step s).1 vv lv gv wv/\Rar w' p q (x.step s).2/\Fr [b,p,q] w w')->Stp w (fun w' B'=>Sk w' B' b (x.step s).1) (b :: (lv.ownBlock.toList++Qn vv gv wv ss)) p q (x.step s).2 (decide ((x.step s).1.line=0)) e w':=by
  rintro e w' e1 e2 e3 e4 ⟨he,ho,hA',F⟩
  have hl':w'.ownsRow 0 99 3 lv (x.step s).1.l.length ((x.step s).1.l.flatMap fT):=by rw [e2];exact kx h.l F (fun g hg hi=>by have hk2:g∈lv.ownBlock.toList:=(by rw [hg];simp);simp at hi;rcases hi with rfl | rfl | rfl;exact h.nl hk2;exact lp hk2;exact lq hk2)
  obtain ⟨B',h1,h2⟩:=U3 h hp hq (F.mono sub1) ho e1 hl' (fun k hk=>.inl hk) (.inl ⟨e3,rfl⟩) (.inl ⟨e4,rfl⟩)
  exact ⟨he,⟨B',h1,h2⟩,hA',(F.mono sub1).mono sub3⟩
 have on:∀ (e:Ending) (w':World),(x.step s).1.versions=x.versions->(x.step s).1.l=x.l->(x.step s).1.w=x.w ->
   (e = .returned (.bool (decide ((x.step s).1.line=0)))/\(∃ gv',kz w' b (x.step s).1 vv lv gv' wv/\(((x.step s).1.groups=x.groups/\gv'=gv)\/∃ ss,Sq fS w' gv' ss/\Gs w' ss (x.step s).1.groups/\(∀ k,k∈gv'.ownBlock.toList->w.heap.size<=k/\k<w'.heap.size)/\(∀ s,s∈ss->∀ k,k∈s.v.ownBlock.toList->w.heap.size<=k/\k<w'.heap.size)))/\Rar w' p q (x.step s).2/\Fr [b,p,q] w w') ->
   Stp w (fun w' B'=>Sk w' B' b (x.step s).1) (b :: (lv.ownBlock.toList++Qn vv gv wv ss)) p q (x.step s).2 (decide ((x.step s).1.line=0)) e w':=by
  rintro e w' e1 e2 e4 ⟨he,⟨gv',ho,hg⟩,hA',F⟩
  have hl':w'.ownsRow 0 99 3 lv (x.step s).1.l.length ((x.step s).1.l.flatMap fT):=by rw [e2];exact kx h.l F (fun g hg hi=>by have hk2:g∈lv.ownBlock.toList:=(by rw [hg];simp);simp at hi;rcases hi with rfl | rfl | rfl;exact h.nl hk2;exact lp hk2;exact lq hk2)
  obtain ⟨B',h1,h2⟩:=U3 h hp hq (F.mono sub1) ho e1 hl' (fun k hk=>.inl hk) (hg.imp id (fun ⟨ss',a1,a2,a3,a4⟩=>⟨ss',a1,a2,a3,a4,fun k hk=>⟨fun hi=>by have h9:=Zf h.l k hk;have h8:=(a3 k hi).1;omega,fun s hs hi=>by have h9:=Zf h.l k hk;have h8:=(a4 s hs k hi).1;omega⟩⟩)) (.inl ⟨e4,rfl⟩)
  exact ⟨he,⟨B',h1,h2⟩,hA',(F.mono sub1).mono sub3⟩
 have onS:∀ y:Bd,y.on.versions=y.versions/\y.on.l=y.l/\y.on.w=y.w:=fun y=>by unfold Bd.on;split <;> exact ⟨rfl,rfl,rfl⟩
 rcases (by omega:x.line=1\/x.line=2\/x.line=3\/x.line=4\/x.line=5\/x.line=6\/x.line=7\/x.line=8) with e | e | e | e | e | e | e | e
 ·have hs:(x.step s).1=Bd.on { x with mn:=qq s.l (wrap64 x.chunk),i:=-1 }:=by unfold Bd.step;rw [qf e]
  refine (qal x e (hx.ok (by omega)) b p q s w vv lv gv wv h.o hA hbp hbq h.v hL nV nL).mono (fun e' w' hh=>on e' w' ?_ ?_ ?_ hh)
  ·rw [hs,(onS _).1]
  ·rw [hs,(onS _).2.1]
  ·rw [hs,(onS _).2.2]
 ·refine (qbb x e (hx.ok (by omega)) b p q s w vv lv gv wv h.o hA hbp hbq h.v hL nV nL).mono (fun e' w' hh=>on e' w' ?_ ?_ ?_ hh) <;> (unfold Bd.step;rw [qd (by omega),qf e];simp only;split) <;> first | rfl | (rw [(onS _).1]) | (rw [(onS _).2.1]) | (rw [(onS _).2.2])
 ·refine (qa2 x e hx.c b p q s w vv lv gv wv h.o hA hbp hbq).mono (fun e' w' hh=>same e' w' ?_ ?_ ?_ ?_ hh) <;> (unfold Bd.step;rw [qd (by omega),qd (by omega),qf e])
 ·refine (qa4 x e (hx.ok (by omega)) b p q s w vv lv gv wv h.o hA hbp hbq h.v h.l nV nL nVL).mono ?_
  rintro e' w' ⟨he,⟨lv',gv',ho,hl',hl2,hg⟩,hA',F⟩
  have hs:(x.step s).1=Bd.on { x with x:=⟨x.x.k,x.x.v,qq s.l (wrap64 (x.sa+2))⟩,l:=x.l++[⟨x.x.k,x.x.v,qq s.l (wrap64 (x.sa+2))⟩] }:=by unfold Bd.step;rw [qd (by omega),qd (by omega),qd (by omega),qf e]
  obtain ⟨B',h1,h2⟩:=U3 h hp hq F ho (by rw [hs,(onS _).1]) hl' hl2 hg (.inl ⟨by rw [hs,(onS _).2.2],rfl⟩)
  exact ⟨he,⟨B',h1,h2⟩,hA',F.mono sub3⟩
 ·have hg9:=hx.g
  refine (qb2 x e (hx.ok (by omega)) (by omega) (by omega) b p q s w vv lv gv wv h.o hA hbp hbq ss h.g h.gs nG nS).mono ?_
  rintro e' w' ⟨he,⟨wv',ho,hw⟩,hA',F⟩
  have hs:(x.step s).1.versions=x.versions/\(x.step s).1.l=x.l/\(x.step s).1.groups=x.groups:=by
   unfold Bd.step;rw [qd (by omega),qd (by omega),qd (by omega),qd (by omega),qf e];simp only
   unfold Bd.five;simp only
   split <;> exact ⟨rfl,rfl,rfl⟩
  have hl':w'.ownsRow 0 99 3 lv (x.step s).1.l.length ((x.step s).1.l.flatMap fT):=by rw [hs.2.1];exact kx h.l F (fun g hg hi=>by have hk2:g∈lv.ownBlock.toList:=(by rw [hg];simp);simp at hi;rcases hi with rfl | rfl | rfl;exact h.nl hk2;exact lp hk2;exact lq hk2)
  obtain ⟨B',h1,h2⟩:=U3 h hp hq (F.mono sub1) ho hs.1 hl' (fun k hk=>.inl hk) (.inl ⟨hs.2.2,rfl⟩) (hw.imp id (fun ⟨a1,a2⟩=>⟨a1,a2,fun k hk hi=>by have h9:=Zf h.l k hk;have h8:=(a2 k hi).1;omega⟩))
  exact ⟨he,⟨B',h1,h2⟩,hA',(F.mono sub1).mono sub3⟩
 ·refine (qb9 x e hx.c (hx.w6 e) hx.w b p q s w vv lv gv wv h.o hA hbp hbq h.sw nW).mono (fun e' w' hh=>same e' w' ?_ ?_ ?_ ?_ hh) <;> (unfold Bd.step;rw [qd (by omega),qd (by omega),qd (by omega),qd (by omega),qd (by omega),qf e])
 ·refine (qbh x e hx.c b p q s w vv lv gv wv h.o hA hbp hbq).mono (fun e' w' hh=>same e' w' ?_ ?_ ?_ ?_ hh) <;> (unfold Bd.step;rw [qd (by omega),qd (by omega),qd (by omega),qd (by omega),qd (by omega),qd (by omega),qf e])
 ·refine (qai x e hx.c b p q s w vv lv gv wv h.o hA hbp hbq).mono (fun e' w' hh=>same e' w' ?_ ?_ ?_ ?_ hh) <;> (unfold Bd.step;rw [qd (by omega),qd (by omega),qd (by omega),qd (by omega),qd (by omega),qd (by omega),qd (by omega),qf e])
theorem Qh (x:Ld) (b:Nat) (w:World) (h:vn w b x):Calls Tryz.prog 182 #[.pointer (some ⟨b,0,none⟩)] w fun e w'=>e = .returned (.tuple #[.int .i64 x.three.1,.int .i64 x.three.2.1,.int .i64 x.three.2.2])/\Fr [] w w':=by
 obtain ⟨c0,c1,c2,c3,c4,c5,c6,c7,c8,c9,c10,c11,c12,c13⟩:=ze h
 by_cases hl:x.line=0
 ·rw [hl] at c7
  cases ha:x.alone
  ·have e3:x.three=(x.l,x.n,x.after):=by unfold Ld.three;simp [hl,ha]
   rw [e3]
   rw [ha] at c12
   go_enter Tryz.func182,Tryz.ntmps182
   go_wp2_with fail
   have k8:=qb c8
   have k9:=qb c9
   have k13:=qb c13
   clear c0 c1 c2 c3 c4 c5 c6 c7 c8 c9 c10 c11 c12 c13 e3
   refine wiq ?_
   repeat (go_big_quiet_step (fail))
   refine wpQuiet_nil ?_
   intro w2 F2
   go_wp2_with fail
   go_ret3
   exact ⟨rfl,F2⟩
  have e3:x.three=(x.l,0,x.after):=by unfold Ld.three;simp [hl,ha]
  rw [e3]
  rw [ha] at c12
  go_enter Tryz.func182,Tryz.ntmps182
  go_wp2_with fail
  have k8:=qb c8
  have k13:=qb c13
  clear c0 c1 c2 c3 c4 c5 c6 c7 c8 c9 c10 c11 c12 c13 e3
  refine wiq ?_
  repeat (go_big_quiet_step (fail))
  refine wpQuiet_nil ?_
  intro w2 F2
  go_wp2_with fail
  go_ret3
  exact ⟨rfl,F2⟩
 ·have e3:x.three=(0,0,0):=by unfold Ld.three;simp [hl]
  rw [e3]
  have g:(x.line != 0)=true:=by simpa using hl
  go_enter Tryz.func182,Tryz.ntmps182
  go_wp2_with fail
  go_ret3
  exact ⟨rfl,Fr.refl _ _⟩
def FmC (f:Fm) (lb:Nat) (sp np bp pp:Option Nat):Array Value:=#[.int .i64 f.chunk,.int .i64 f.part,.pointer (some ⟨lb,0,none⟩),xw sp,xw np,.bool false,xw bp,xw pp,.int .i64 f.repl]
def Zp (w:World) (b:Nat) (f:Fm) (lb:Nat) (sp np bp pp:Option Nat):Prop:=Ob w b 231 (FmC f lb sp np bp pp)
theorem zq {w:World} {b lb:Nat} {f:Fm} {sp np bp pp:Option Nat} (h:Zp w b f lb sp np bp pp):w.cell? ⟨b,0,none⟩=some (.int .i64 f.chunk)/\w.cell? ⟨b,1,none⟩=some (.int .i64 f.part)/\w.cell? ⟨b,2,none⟩=some (.pointer (some ⟨lb,0,none⟩))/\w.cell? ⟨b,3,none⟩=some (xw sp)/\w.cell? ⟨b,4,none⟩=some (xw np)/\w.cell? ⟨b,5,none⟩=some (.bool false)/\w.cell? ⟨b,6,none⟩=some (xw bp)/\w.cell? ⟨b,7,none⟩=some (xw pp)/\w.cell? ⟨b,8,none⟩=some (.int .i64 f.repl) :=
 ⟨h.cell rfl,h.cell rfl,h.cell rfl,h.cell rfl,h.cell rfl,h.cell rfl,h.cell rfl,h.cell rfl,h.cell rfl⟩
theorem X9 (f:Fm) (c:Cf) (hc:c.Ok) (repl:Int) (b lb:Nat) (sp np bp pp:Option Nat) (w:World) (h:Zp w b f lb sp np bp pp) (hl:vn w lb f.l) :
  Calls Tryz.prog 185 #[.pointer (some ⟨b,0,none⟩),c.val,.int .i64 repl] w fun e w'=>e = .returned (.tuple #[])/\(∃ pb,w.heap.size<=pb/\Zp w' b (f.splice c repl) lb sp np bp (some pb)/\Zk w' pb (Sp.new c f.l.three.1 f.l.three.2.1 repl))/\Fr [b] w w':=by
 unfold Cf.val
 have F0:=(Fr.refl [] w).alloc (.cells #[.int .i64 c.t,.int .i64 c.c,.int .i64 c.wd,.int .i64 c.v] 23)
 have o0:=Ob.new w 23 #[.int .i64 c.t,.int .i64 c.c,.int .i64 c.wd,.int .i64 c.v]
 have h0:=Ob.up h F0
 have l0:=Ob.up hl F0
 obtain ⟨c0,c1,c2,c3,c4,c5,c6,c7,c8⟩:=zq h0
 have z:=h0.frozen
 have hbn:=Ob.lt h
 have hbe:¬ b=w.heap.size:=by omega
 clear h hl
 go_enter Tryz.func185,Tryz.ntmps185
 go_wp2_with fail
 generalize (w.alloc (.cells #[.int .i64 c.t,.int .i64 c.c,.int .i64 c.wd,.int .i64 c.v] 23))=w0 at *
 generalize hq:w.heap.size=q at *
 have HQ:=q9 hq
 clear c0 c1 c2 c3 c4 c5 c6 c7 c8 z hq
 refine (Qh f.l lb w0 l0).mono ?_;rintro e w1 ⟨rfl,F1⟩
 have h1:=Ob.up h0 F1
 have o1:=Ob.up o0 F1
 have D1:=F0.trans F1
 obtain ⟨c0,c1,c2,c3,c4,c5,c6,c7,c8⟩:=zq h1
 have z:=h1.frozen
 obtain ⟨d0,d1,d2,d3⟩:=Pl.yf o1
 clear h0 o0 l0 F0 F1
 go_wp2_with fail
 clear c0 c1 c2 c3 c4 c5 c6 c7 c8 z d0 d1 d2 d3
 refine (U5 c f.l.three.1 f.l.three.2.1 repl _).mono ?_;rintro e w2 ⟨pb,rfl,hpb,p2,F2⟩
 have h2:=Ob.up h1 F2
 have D2:=D1.trans F2
 have HPB:=q9 (qh D1.size hpb)
 obtain ⟨c0,c1,c2,c3,c4,c5,c6,c7,c8⟩:=zq h2
 have z:=h2.frozen
 have hne:¬ b=pb:=by have:=Ob.lt h1;omega
 clear h1 o1 D1 F2 hpb
 go_wp2_with fail
 go_end0
 refine ⟨rfl,⟨pb,?_,Ob.set (Ob.set (Ob.set h2 (i:=8) _) (i:=1) _) (i:=7) _,Ob.other (Ob.other (Ob.other p2 (Ne.symm hne) _) (Ne.symm hne) _) (Ne.symm hne) _⟩,(((D2.mono).trans (Fr.setCell _ (by simp))).setCell' _ (by simp)).setCell' _ (by simp)⟩
 exact HPB.out
theorem Tf (x:Nd) (hl:x.line=0) (b:Nat) (w:World) (h:V4 w b x):Calls Tryz.prog 213 #[.pointer (some ⟨b,0,none⟩)] w fun e w'=>e = .returned x.lv/\w'=w:=by
 obtain ⟨c0,c1,c2,c3,c4,c5,c6,c7,c8⟩:=xj h
 rw [hl] at c5
 go_enter Tryz.func213,Tryz.ntmps213
 go_wp2
 go_ret
 exact ⟨rfl,rfl⟩
theorem Uw (c:Cf) (chunk mate after:Int) (vs:List Int) (vv:Value) (w:World) (hV:Sq fI w vv vs) (hlt:∀ k,k∈vv.ownBlock.toList->k<w.heap.size) :
  Calls Tryz.prog 212 #[c.val,.int .i64 chunk,.int .i64 mate,.int .i64 after,vv] w fun e w'=>∃ b B,e = .returned (.pointer (some ⟨b,0,none⟩))/\w.heap.size<=b/\Sk w' B b (Bd.new c chunk mate after vs)/\(∀ k,k∈B->k∈vv.ownBlock.toList\/w.heap.size<=k)/\Fr [] w w':=by
 obtain ⟨av,cv,rfl,hcv,hmv,-⟩:=id hV
 unfold Cf.val
 have F0:=(Fr.refl [] w).alloc (.cells #[.int .i64 c.t,.int .i64 c.c,.int .i64 c.wd,.int .i64 c.v] 23)
 obtain ⟨c0,c1,c2,c3⟩:=Pl.yf (Go.heap_alloc_new w (.cells #[.int .i64 c.t,.int .i64 c.c,.int .i64 c.wd,.int .i64 c.v] 23))
 go_enter Tryz.func212,Tryz.ntmps212
 go_wp2
 go_ret
 have ho:kz _ (w.heap.size+1) (Bd.new c chunk mate after vs) (.slice av vs.length cv) (.slice none 0 0) (.slice none 0 0) (.slice none 0 0):=Ob.newAt (Vg w (.cells #[.int .i64 c.t,.int .i64 c.c,.int .i64 c.wd,.int .i64 c.v] 23)) _ _
 have F1:=F0.alloc (.cells ((Bd.new c chunk mate after vs).cells (.slice av vs.length cv) (.slice none 0 0) (.slice none 0 0) (.slice none 0 0)) 242)
 have hr:∀ k,k∈Qn (.slice av vs.length cv) (.slice none 0 0) (.slice none 0 0) []->k∈(Value.slice av vs.length cv).ownBlock.toList:=by
  intro k hk
  rcases zx.1 hk with hk | hk | ⟨s,hs,hk⟩ | hk
  ·exact hk
  ·simp [Value.ownBlock] at hk
  ·simp at hs
  ·simp [Value.ownBlock] at hk
 refine ⟨_,_,rfl,by omega,⟨_,_,_,_,[],⟨ho,hV.up F1,⟨rfl,.inl ⟨rfl,rfl⟩⟩,Sq.nil _,⟨rfl,fun i s g e=>by simp at e⟩,Sq.nil _,by simp [Value.ownBlock],fun hi=>?_,fun k hk=>by simp [Value.ownBlock] at hk,fun k hk=>?_⟩,rfl⟩,fun k hk=>?_,F1⟩
 ·have:=hlt _ (hr _ hi);omega
 ·exact qj (hlt _ (hr _ hk)) F1.size
 ·rcases List.mem_cons.1 hk with rfl | hk
  ·exact .inr (by omega)
  rcases List.mem_append.1 hk with hk | hk
  ·simp [Value.ownBlock] at hk
  exact .inl (hr k hk)
def fP (b:Nat):List Value:=[.pointer (some ⟨b,0,none⟩)]
theorem V3:Lays fP 1:=⟨fun _=>rfl,fun x u hu=>by rw [List.mem_singleton.1 hu];rfl,by decide⟩
theorem fpI:(Tryz.prog.info? 224).map (fun i=>(i.zero,i.size,i.bytes))=some (some (.pointer none),1,8):=by kernel_rfl
def MdC (m:Md) (dv fv:Value):Array Value:=#[.int .i64 m.c.t,.int .i64 m.c.c,.int .i64 m.c.wd,.int .i64 m.c.v,dv,fv,.int .i64 m.e]
def Z1 (w:World) (b:Nat) (m:Md) (dv fv:Value):Prop:=Ob w b 211 (MdC m dv fv)
theorem zl {w:World} {b:Nat} {m:Md} {dv fv:Value} (h:Z1 w b m dv fv):w.cell? ⟨b,0,none⟩=some (.int .i64 m.c.t)/\w.cell? ⟨b,1,none⟩=some (.int .i64 m.c.c)/\w.cell? ⟨b,2,none⟩=some (.int .i64 m.c.wd)/\w.cell? ⟨b,3,none⟩=some (.int .i64 m.c.v)/\w.cell? ⟨b,4,none⟩=some dv/\w.cell? ⟨b,5,none⟩=some fv/\w.cell? ⟨b,6,none⟩=some (.int .i64 m.e) :=
 ⟨h.cell rfl,h.cell rfl,h.cell rfl,h.cell rfl,h.cell rfl,h.cell rfl,h.cell rfl⟩
theorem q73 {ds:List Int} (h:ds.length=0):J1 ds=false:=by rw [List.eq_nil_of_length_eq_zero h];rfl
theorem q86 {ds:List Int} {d:Int} (h:ds[0]? = some d):J1 ds=decide (bits .and .i64 d 1=1):=by
 cases ds with
 | nil=>simp at h
 | cons a r=>simp at h;rw [h];rfl
theorem Kw (m:Md) (hc:m.c.Ok) (chunk:Int) (b:Nat) (dv fv:Value) (fbs:List Nat) (w:World) (h:Z1 w b m dv fv) (hD:Sq fI w dv m.draws) (hF:Sq fP w fv fbs) (hlen:fbs.length<=100000) :
  Calls Tryz.prog 190 #[.pointer (some ⟨b,0,none⟩),.int .i64 chunk] w fun e w'=>e = .returned (.tuple #[])/\(∃ fv' fb lb,Z1 w' b m dv fv'/\Sq fP w' fv' (fbs++[fb])/\Zp w' fb (Fm.new m.c chunk (J1 m.draws)) lb none none none none/\vn w' lb (Ld.new m.c chunk (J1 m.draws))/\w.heap.size<=fb/\w.heap.size<=lb/\fb≠lb/\(∀ k,k∈fv'.ownBlock.toList->w.heap.size<=k/\k<w'.heap.size/\k≠fb/\k≠lb))/\Fr [b] w w':=by
 obtain ⟨ad,cd,rfl,hcd,hmd,-⟩:=id hD
 obtain ⟨af,cf,rfl,hcf,hmf,-⟩:=id hF
 generalize hdr:J1 m.draws=dr
 have HDR:=q9 hdr
 clear hdr
 have HH:=q9 (qc hD hF)
 clear hD hF
 obtain ⟨c0,c1,c2,c3,c4,c5,c6⟩:=zl h
 by_cases hz:m.draws.length=0
 ·have hd2:dr=false:=by rw [<- HDR.out];exact q73 hz
  have hzz:((m.draws.length:Nat):Int)=0:=by omega
  clear hz
  subst hd2
  go_enter Tryz.func190,Tryz.ntmps190
  go_wp2_with fail
  clear hzz
  clear c0 c1 c2 c3 c4 c5 c6
  refine qo (by kernel_rfl) ?_
  refine z6 [] w #[true,true,true,true,true,true,true,true,true,true,true,true,true,true,true,true,true,true,false,false,false] 18 3 rfl ?_
  refine lpq [true,true,true,true,true,false,true,true,true,true,true,true,true,false,false,false,false,false,false,false,false] 6 ((Fr.refl _ _).drew) ?_
  apply qg
  refine ⟨fun wf Ff=>?_,?_⟩
  ·obtain ⟨c0,c1,c2,c3,-,c5,-⟩:=zl (Ob.up h Ff)
   have j0:=qb c0
   have j1:=qb c1
   have j2:=qb c2
   have j3:=qb c3
   have j5:=qb c5
   clear c0 c1 c2 c3 c5
   simp only [sel]
   repeat (go_big_quiet_step (fail))
   exact wpQuiet_nil rfl
  refine loq 5 (fun w1 F1=>?_)
  have G:=((Fr.refl [] w).drew).trans F1
  clear F1
  go_wp2_with (at_builtin;go_loud (refine qp V3 rfl _ _ 209 rfl Tryz.underlying209 fpI rfl (B:=w.heap.size) (.slice none 0 0) [] rfl ⟨rfl,.inl ⟨rfl,rfl⟩⟩ _ fbs rfl (HH.out.2.up G) (by simp;omega) (by decide) G.size ?_);intro a2 k2 w2 r2 F2)
  replace G:=G.trans (F2.mono (by simp [Value.ownBlock]))
  rw [List.nil_append] at r2
  clear F2
  refine ql ⟨G,?_⟩
  refine loq 13 (fun w3 F3=>?_)
  have r3:=qm r2 F3
  replace G:=G.trans F3
  clear F3 r2
  go_wp2_with fail
  refine (V9 m.c chunk false w3).mono ?_;rintro e w4 ⟨lb,rfl,hlb,l4,F4⟩
  have r4:=qm r3 F4
  have HLB:=q9 (qh G.size hlb)
  replace G:=G.trans F4
  clear F4 r3 hlb
  go_wp2_with fail
  refine ql ⟨G,?_⟩
  refine loq 14 (fun w5 F5=>?_)
  have r5:=qm r4 F5
  have l5:=Ob.up l4 F5
  replace G:=G.trans F5
  clear F5 r4 l4
  go_wp2_with fail
  refine ql ⟨G,?_⟩
  refine loq 15 (fun w6 F6=>?_)
  have r6:=qm r5 F6
  have l6:=Ob.up l5 F6
  replace G:=G.trans F6
  clear F6 r5 l5
  go_wp2_with fail
  have F7:=(Fr.refl [] w6).alloc (.cells #[.int .i64 chunk,.int .i64 1,.pointer (some ⟨lb,0,none⟩),.pointer none,.pointer none,.bool false,.pointer none,.pointer none,.int .i64 0] 231)
  have o7:=Ob.new w6 231 #[.int .i64 chunk,.int .i64 1,.pointer (some ⟨lb,0,none⟩),.pointer none,.pointer none,.bool false,.pointer none,.pointer none,.int .i64 0]
  have r7:=qm r6 F7
  have l7:=Ob.up l6 F7
  have HLF:=q9 (qc (Ob.lt l6) (qc G.size (Zf r6)))
  replace G:=G.trans F7
  generalize (w6.alloc (.cells #[.int .i64 chunk,.int .i64 1,.pointer (some ⟨lb,0,none⟩),.pointer none,.pointer none,.bool false,.pointer none,.pointer none,.int .i64 0] 231))=w7 at *
  generalize w6.heap.size=fb at *
  clear F7 r6 l6
  refine ql ⟨G,?_⟩
  refine loq 16 (fun w8 F8=>?_)
  have r8:=qm r7 F8
  have l8:=Ob.up l7 F8
  have o8:=Ob.up o7 F8
  replace G:=G.trans F8
  clear F8 r7 l7 o7
  go_wp2_with fail
  have F9:=(Fr.refl [] w8).alloc (.cells #[.pointer (some ⟨fb,0,none⟩)] 224)
  have B9:=Go.heap_alloc_new w8 (.cells #[.pointer (some ⟨fb,0,none⟩)] 224)
  have r9:=qm r8 F9
  have l9:=Ob.up l8 F9
  have o9:=Ob.up o8 F9
  replace G:=G.trans F9
  clear F9 r8 l8 o8
  refine ql ⟨G,?_⟩
  refine loq 17 (fun w10 F10=>?_)
  have r10:=qm r9 F10
  have l10:=Ob.up l9 F10
  have o10:=Ob.up o9 F10
  have B10:=F10.heap B9 (by simp)
  replace G:=G.trans F10
  clear F10 r9 l9 o9 B9
  go_wp2_with (at_builtin;go_loud (refine qp V3 rfl _ _ 209 rfl Tryz.underlying209 fpI rfl (B:=w.heap.size) _ fbs rfl r10 _ [fb] rfl (Sq.block B10 rfl rfl (Nat.le_refl _) (by simp [maxLen])) (by simp;omega) (by decide) G.size ?_);intro a11 k11 w11 r11 F11;generalize hT:fbs++[fb]=T at r11 ⊢)
  have HT:=q9 hT
  have l11:=Ob.kept l10 F11 (jd r10 l10 (by decide))
  have o11:=Ob.kept o10 F11 (jd r10 o10 (by decide))
  replace G:=G.own F11 (z8 r10)
  clear F11 r10 l10 o10 B10 hT
  refine ql ⟨G,?_⟩
  refine qx (k:=18) rfl (by kernel_rfl) (fun w12 F12=>?_)
  have r12:=qm r11 F12
  have l12:=Ob.up l11 F12
  have o12:=Ob.up o11 F12
  replace G:=G.trans F12
  have h12:=Ob.up h G
  have hbw:=Ob.lt h
  clear F12 r11 l11 o11 h
  have z:=h12.frozen
  obtain ⟨c0,c1,c2,c3,c4,c5,c6⟩:=zl h12
  have nb1:=jd r12 h12 (by decide)
  have nb2:=jd r12 l12 (by decide)
  have nb3:=jd r12 o12 (by decide)
  have HR:=q9 (qc r12 (qc l12 (qc o12 (qc h12 G))))
  have hbf:¬ b=fb/\¬ b=lb:=by have:=HLB.out;have:=HLF.out.2.1;omega
  clear r12 l12 o12 h12 G
  go_wp2_with fail
  go_end0
  have SF:Fr [b] w12 (w12.setCell ⟨b,5,none⟩ (.slice a11 T.length k11)):=Fr.setCell _ (by simp)
  refine ⟨rfl,⟨_,fb,lb,Ob.set HR.out.2.2.2.1 (i:=5) (.slice a11 T.length k11),by rw [HT.out];exact (Sq.own (f:=fP) HR.out.1).kept SF (fun k hk hi=>by simp at hi;subst hi;exact nb1 hk),Ob.other HR.out.2.2.1 (Ne.symm hbf.1) _,Ob.other HR.out.2.1 (Ne.symm hbf.2) _,HLF.out.2.1,HLB.out,by have:=HLF.out.1;omega,fun k hk=>⟨z8 HR.out.1 k (by simpa using hk),qj (Zf HR.out.1 k (by simpa using hk)) SF.size,fun e=>nb3 (by rw [<- e];simpa using hk),fun e=>nb2 (by rw [<- e];simpa using hk)⟩⟩,(HR.out.2.2.2.2.mono (by simp)).trans SF⟩
 ·obtain ⟨d,hd⟩:∃ d,m.draws[0]? = some d:=⟨m.draws[0]'(by omega),List.getElem?_eq_getElem _⟩
  obtain ⟨gd,od,rfl,d0⟩:=Zn HH.out.1 hd
  have hd2:dr=decide (bits .and .i64 d 1=1):=by rw [<- HDR.out];exact q86 hd
  have HD2:=q9 hd2
  have hz0:(0:Int)<(m.draws.length:Int):=by omega
  replace d0:w.cell? ⟨gd,od,none⟩=some (.int .i64 d):=by simpa using d0
  clear hd2 hz hd
  by_cases hbit:bits .and .i64 d 1=1
  focus
   have g9:(bits .and .i64 d 1 == 1)=true:=by simpa using hbit
   have HD3:dr=true:=by rw [HD2.out];simpa using hbit
   subst HD3
   clear hbit
   go_enter Tryz.func190,Tryz.ntmps190
   go_wp2_with fail
   clear hz0 d0 g9
   clear c0 c1 c2 c3 c4 c5 c6
   refine qo (by kernel_rfl) ?_
   refine z6 [] w #[true,true,true,true,true,true,true,true,true,true,true,true,true,true,true,true,true,true,false,false,false] 18 3 rfl ?_
   refine lpq [true,true,true,true,true,false,true,true,true,true,true,true,true,false,false,false,false,false,false,false,false] 6 ((Fr.refl _ _).drew) ?_
   apply qg
   refine ⟨fun wf Ff=>?_,?_⟩
   ·obtain ⟨c0,c1,c2,c3,-,c5,-⟩:=zl (Ob.up h Ff)
    have j0:=qb c0
    have j1:=qb c1
    have j2:=qb c2
    have j3:=qb c3
    have j5:=qb c5
    clear c0 c1 c2 c3 c5
    simp only [sel]
    repeat (go_big_quiet_step (fail))
    exact wpQuiet_nil rfl
   refine loq 5 (fun w1 F1=>?_)
   have G:=((Fr.refl [] w).drew).trans F1
   clear F1
   go_wp2_with (at_builtin;go_loud (refine qp V3 rfl _ _ 209 rfl Tryz.underlying209 fpI rfl (B:=w.heap.size) (.slice none 0 0) [] rfl ⟨rfl,.inl ⟨rfl,rfl⟩⟩ _ fbs rfl (HH.out.2.up G) (by simp;omega) (by decide) G.size ?_);intro a2 k2 w2 r2 F2)
   replace G:=G.trans (F2.mono (by simp [Value.ownBlock]))
   rw [List.nil_append] at r2
   clear F2
   refine ql ⟨G,?_⟩
   refine loq 13 (fun w3 F3=>?_)
   have r3:=qm r2 F3
   replace G:=G.trans F3
   clear F3 r2
   go_wp2_with fail
   refine (V9 m.c chunk true w3).mono ?_;rintro e w4 ⟨lb,rfl,hlb,l4,F4⟩
  rotate_left
  focus
   have g9:(bits .and .i64 d 1 == 1)=false:=by simpa using hbit
   have HD3:dr=false:=by rw [HD2.out];simpa using hbit
   subst HD3
   clear hbit
   go_enter Tryz.func190,Tryz.ntmps190
   go_wp2_with fail
   clear hz0 d0 g9
   clear c0 c1 c2 c3 c4 c5 c6
   refine qo (by kernel_rfl) ?_
   refine z6 [] w #[true,true,true,true,true,true,true,true,true,true,true,true,true,true,true,true,true,true,false,false,false] 18 3 rfl ?_
   refine lpq [true,true,true,true,true,false,true,true,true,true,true,true,true,false,false,false,false,false,false,false,false] 6 ((Fr.refl _ _).drew) ?_
   apply qg
   refine ⟨fun wf Ff=>?_,?_⟩
   ·obtain ⟨c0,c1,c2,c3,-,c5,-⟩:=zl (Ob.up h Ff)
    have j0:=qb c0
    have j1:=qb c1
    have j2:=qb c2
    have j3:=qb c3
    have j5:=qb c5
    clear c0 c1 c2 c3 c5
    simp only [sel]
    repeat (go_big_quiet_step (fail))
    exact wpQuiet_nil rfl
   refine loq 5 (fun w1 F1=>?_)
   have G:=((Fr.refl [] w).drew).trans F1
   clear F1
   go_wp2_with (at_builtin;go_loud (refine qp V3 rfl _ _ 209 rfl Tryz.underlying209 fpI rfl (B:=w.heap.size) (.slice none 0 0) [] rfl ⟨rfl,.inl ⟨rfl,rfl⟩⟩ _ fbs rfl (HH.out.2.up G) (by simp;omega) (by decide) G.size ?_);intro a2 k2 w2 r2 F2)
   replace G:=G.trans (F2.mono (by simp [Value.ownBlock]))
   rw [List.nil_append] at r2
   clear F2
   refine ql ⟨G,?_⟩
   refine loq 13 (fun w3 F3=>?_)
   have r3:=qm r2 F3
   replace G:=G.trans F3
   clear F3 r2
   go_wp2_with fail
   refine (V9 m.c chunk false w3).mono ?_;rintro e w4 ⟨lb,rfl,hlb,l4,F4⟩
  rotate_left
  all_goals
   have r4:=qm r3 F4
   have HLB:=q9 (qh G.size hlb)
   replace G:=G.trans F4
   clear F4 r3 hlb
   go_wp2_with fail
   refine ql ⟨G,?_⟩
   refine loq 14 (fun w5 F5=>?_)
   have r5:=qm r4 F5
   have l5:=Ob.up l4 F5
   replace G:=G.trans F5
   clear F5 r4 l4
   go_wp2_with fail
   refine ql ⟨G,?_⟩
   refine loq 15 (fun w6 F6=>?_)
   have r6:=qm r5 F6
   have l6:=Ob.up l5 F6
   replace G:=G.trans F6
   clear F6 r5 l5
   go_wp2_with fail
   have F7:=(Fr.refl [] w6).alloc (.cells #[.int .i64 chunk,.int .i64 1,.pointer (some ⟨lb,0,none⟩),.pointer none,.pointer none,.bool false,.pointer none,.pointer none,.int .i64 0] 231)
   have o7:=Ob.new w6 231 #[.int .i64 chunk,.int .i64 1,.pointer (some ⟨lb,0,none⟩),.pointer none,.pointer none,.bool false,.pointer none,.pointer none,.int .i64 0]
   have r7:=qm r6 F7
   have l7:=Ob.up l6 F7
   have HLF:=q9 (qc (Ob.lt l6) (qc G.size (Zf r6)))
   replace G:=G.trans F7
   generalize (w6.alloc (.cells #[.int .i64 chunk,.int .i64 1,.pointer (some ⟨lb,0,none⟩),.pointer none,.pointer none,.bool false,.pointer none,.pointer none,.int .i64 0] 231))=w7 at *
   generalize w6.heap.size=fb at *
   clear F7 r6 l6
   refine ql ⟨G,?_⟩
   refine loq 16 (fun w8 F8=>?_)
   have r8:=qm r7 F8
   have l8:=Ob.up l7 F8
   have o8:=Ob.up o7 F8
   replace G:=G.trans F8
   clear F8 r7 l7 o7
   go_wp2_with fail
   have F9:=(Fr.refl [] w8).alloc (.cells #[.pointer (some ⟨fb,0,none⟩)] 224)
   have B9:=Go.heap_alloc_new w8 (.cells #[.pointer (some ⟨fb,0,none⟩)] 224)
   have r9:=qm r8 F9
   have l9:=Ob.up l8 F9
   have o9:=Ob.up o8 F9
   replace G:=G.trans F9
   clear F9 r8 l8 o8
   refine ql ⟨G,?_⟩
   refine loq 17 (fun w10 F10=>?_)
   have r10:=qm r9 F10
   have l10:=Ob.up l9 F10
   have o10:=Ob.up o9 F10
   have B10:=F10.heap B9 (by simp)
   replace G:=G.trans F10
   clear F10 r9 l9 o9 B9
   go_wp2_with (at_builtin;go_loud (refine qp V3 rfl _ _ 209 rfl Tryz.underlying209 fpI rfl (B:=w.heap.size) _ fbs rfl r10 _ [fb] rfl (Sq.block B10 rfl rfl (Nat.le_refl _) (by simp [maxLen])) (by simp;omega) (by decide) G.size ?_);intro a11 k11 w11 r11 F11;generalize hT:fbs++[fb]=T at r11 ⊢)
   have HT:=q9 hT
   have l11:=Ob.kept l10 F11 (jd r10 l10 (by decide))
   have o11:=Ob.kept o10 F11 (jd r10 o10 (by decide))
   replace G:=G.own F11 (z8 r10)
   clear F11 r10 l10 o10 B10 hT
   refine ql ⟨G,?_⟩
   refine qx (k:=18) rfl (by kernel_rfl) (fun w12 F12=>?_)
   have r12:=qm r11 F12
   have l12:=Ob.up l11 F12
   have o12:=Ob.up o11 F12
   replace G:=G.trans F12
   have h12:=Ob.up h G
   have hbw:=Ob.lt h
   clear F12 r11 l11 o11 h
   have z:=h12.frozen
   obtain ⟨c0,c1,c2,c3,c4,c5,c6⟩:=zl h12
   have nb1:=jd r12 h12 (by decide)
   have nb2:=jd r12 l12 (by decide)
   have nb3:=jd r12 o12 (by decide)
   have HR:=q9 (qc r12 (qc l12 (qc o12 (qc h12 G))))
   have hbf:¬ b=fb/\¬ b=lb:=by have:=HLB.out;have:=HLF.out.2.1;omega
   clear r12 l12 o12 h12 G
   go_wp2_with fail
   go_end0
   have SF:Fr [b] w12 (w12.setCell ⟨b,5,none⟩ (.slice a11 T.length k11)):=Fr.setCell _ (by simp)
   refine ⟨rfl,⟨_,fb,lb,Ob.set HR.out.2.2.2.1 (i:=5) (.slice a11 T.length k11),by rw [HT.out];exact (Sq.own (f:=fP) HR.out.1).kept SF (fun k hk hi=>by simp at hi;subst hi;exact nb1 hk),Ob.other HR.out.2.2.1 (Ne.symm hbf.1) _,Ob.other HR.out.2.1 (Ne.symm hbf.2) _,HLF.out.2.1,HLB.out,by have:=HLF.out.1;omega,fun k hk=>⟨z8 HR.out.1 k (by simpa using hk),qj (Zf HR.out.1 k (by simpa using hk)) SF.size,fun e=>nb3 (by rw [<- e];simpa using hk),fun e=>nb2 (by rw [<- e];simpa using hk)⟩⟩,(HR.out.2.2.2.2.mono (by simp)).trans SF⟩
theorem Z3 {w:World} {a:Option Addr} {n cap i:Nat} {xs:List Nat} {x:Nat} (h:Sq fP w (.slice a n cap) xs) (hi:xs[i]? = some x) :
  ∃ g off,a=some ⟨g,off,none⟩/\w.cell? ⟨g,off+i,none⟩=some (.pointer (some ⟨x,0,none⟩)):=by
 obtain ⟨-,g,off,rfl,hc⟩:=Sq.cell V3 h hi
 exact ⟨g,off,rfl,by simpa using hc 0 _ rfl⟩
def AftR (w w':World) (c:Cf) (fb lb:Nat) (f:Fm) (sp np bp pp:Option Nat) (r:Int):Prop :=
 (r=0/\Zp w' fb { f with part:=4 } lb sp np bp pp)\/(r≠0/\∃ pb,w.heap.size<=pb/\Zp w' fb (f.splice c r) lb sp np bp (some pb)/\Zk w' pb (Sp.new c f.l.three.1 f.l.three.2.1 r))
def Aft5 (w w':World) (m:Md) (b:Nat) (dv fv:Value) (fb lb bb:Nat) (f:Fm) (sp np pp:Option Nat) (Bb:List Nat) (y:Bd) (e:Ending):Prop :=
 (y.line≠0/\e = .returned (.bool false)/\Z1 w' b m dv fv/\Zp w' fb f lb sp np (some bb) pp/\∃ B',Sk w' B' bb y/\∀ k,k∈B'->k∈Bb\/w.heap.size<=k) \/
 (y.line=0/\y.e=0/\e = .returned (.bool false)/\Z1 w' b m dv fv/\∃ pb,w.heap.size<=pb/\Zp w' fb (f.splice m.c y.repl) lb sp np (some bb) (some pb)/\Zk w' pb (Sp.new m.c f.l.three.1 f.l.three.2.1 y.repl)) \/
 (y.line=0/\y.e≠0/\e = .returned (.bool true)/\Z1 w' b { m with e:=y.e } dv (.slice none 0 0))
theorem W9 {w:World} {B:List Nat} {b:Nat} {x:Bd} (h:Sk w B b x):w.cell? ⟨b,18,none⟩=some (.int .i64 x.repl)/\w.cell? ⟨b,19,none⟩=some (.int .i64 x.e):=by
 obtain ⟨vv,lv,gv,wv,ss,h,-⟩:=h
 exact ⟨h.o.cell rfl,h.o.cell rfl⟩
def Aft1 (w w':World) (m:Md) (b:Nat) (dv fv:Value) (fb lb:Nat) (f:Fm) (sp np bp pp:Option Nat) (y:Ld):Prop :=
 (∃ dv',Sq fI w' dv' (if y.drew=true/\f.l.drew=false/\m.draws≠[] then m.draws.tail else m.draws)/\(∀ k,k∈dv'.ownBlock.toList->k∈dv.ownBlock.toList)/\Z1 w' b m dv' fv) /\
 ((y.line=0/\∃ sb,w.heap.size<=sb/\Zp w' fb { f with part:=2 } lb (some sb) np bp pp/\Vl w' sb (Sl.new m.c y.three.1 y.three.2.1))\/(y.line≠0/\Zp w' fb f lb sp np bp pp))
def qd0 (w w':World) (m:Md) (fb lb nb:Nat) (f:Fm) (sp bp pp:Option Nat) (lv:Value) (y:Nd):Prop :=
 (y.line≠0/\Zp w' fb f lb sp (some nb) bp pp/\∃ lv',V4 w' nb { y with lv:=lv' } /\ Sq fI w' lv' y.l/\(lv'=lv\/(y.l≠[]/\∀ g,g∈lv'.ownBlock.toList->w.heap.size<=g))) \/
 (y.line=0/\∃ bb B,w.heap.size<=bb/\Zp w' fb { f with part:=5 } lb sp (some nb) (some bb) pp/\Sk w' B bb (Bd.new m.c f.l.three.1 f.l.three.2.1 f.l.three.2.2 y.l)/\∀ k,k∈B->k∈lv.ownBlock.toList\/w.heap.size<=k)
def qcp (w w':World) (m:Md) (b:Nat) (dv fv:Value) (ifb:List Nat) (fb lb pb:Nat) (f:Fm) (sp np bp:Option Nat) (y:Sp):Prop :=
 (y.line≠0/\Z1 w' b m dv fv/\Zp w' fb f lb sp np bp (some pb)/\Zk w' pb y) \/
 (y.line=0/\y.stuck=0/\∃ fv',Z1 w' b m dv fv'/\Sq fP w' fv' ifb/\(∀ k,k∈fv'.ownBlock.toList->k∈fv.ownBlock.toList)) \/
 (y.line=0/\y.stuck≠0/\∃ pb2 fv' fb2 lb2,Z1 w' b m dv fv'/\Sq fP w' fv' ((ifb++[fb])++[fb2])/\Zp w' fb (f.splice m.c f.repl) lb sp np bp (some pb2)/\Zk w' pb2 (Sp.new m.c f.l.three.1 f.l.three.2.1 f.repl)/\Zp w' fb2 (Fm.new m.c y.stuck (J1 m.draws)) lb2 none none none none/\vn w' lb2 (Ld.new m.c y.stuck (J1 m.draws)) /\
  w.heap.size<=pb2/\w.heap.size<=fb2/\w.heap.size<=lb2/\pb2<fb2/\pb2<lb2/\fb2≠lb2/\(∀ k,k∈fv'.ownBlock.toList->pb2<k/\k<w'.heap.size/\k≠fb2/\k≠lb2))
theorem q7o {w:World} {b:Nat} {x:Sp} (h:Zk w b x):w.cell? ⟨b,12,none⟩=some (.int .i64 x.stuck):=h.cell rfl
theorem qd0.mono {w0 w w':World} {m:Md} {fb lb nb:Nat} {f:Fm} {sp bp pp:Option Nat} {lv:Value} {y:Nd} (h:qd0 w w' m fb lb nb f sp bp pp lv y) (hs:w0.heap.size<=w.heap.size):qd0 w0 w' m fb lb nb f sp bp pp lv y:=by
 rcases h with ⟨h1,h2,lv',h3,h4,h5⟩ | ⟨h1,bb,B,h2,h3,h4,h5⟩
 ·exact .inl ⟨h1,h2,lv',h3,h4,h5.imp id (fun ⟨a,c⟩=>⟨a,fun g hg=>qh hs (c g hg)⟩)⟩
 ·exact .inr ⟨h1,bb,B,qh hs h2,h3,h4,fun k hk=>(h5 k hk).imp id (fun e=>qh hs e)⟩
theorem qcp.mono {w0 w w':World} {m:Md} {b:Nat} {dv fv:Value} {ifb:List Nat} {fb lb pb:Nat} {f:Fm} {sp np bp:Option Nat} {y:Sp} (h:qcp w w' m b dv fv ifb fb lb pb f sp np bp y) (hs:w0.heap.size<=w.heap.size):qcp w0 w' m b dv fv ifb fb lb pb f sp np bp y:=by
 rcases h with h | h | ⟨h1,h2,pb2,fv',fb2,lb2,h3,h4,h5,h6,h7,h8,g1,g2,g3,g4⟩
 ·exact .inl h
 ·exact .inr (.inl h)
 ·exact .inr (.inr ⟨h1,h2,pb2,fv',fb2,lb2,h3,h4,h5,h6,h7,h8,by omega,by omega,by omega,g4⟩)
def Yo (y:Sp) (ifb:List Nat):Bool:=decide (y.line=0/\y.stuck=0/\ifb=[])
theorem qan (m:Md) (f:Fm) (hpt:f.part=2) (x:Sl) (hxc:x.c.Ok) (sb:Nat) (b fb lb p q:Nat) (sp np bp pp:Option Nat) (dv fv:Value) (ifb:List Nat) (s:St) (w:World) (h:Z1 w b m dv fv) (hF:Sq fP w fv (ifb++[fb])) (hlen:ifb.length<=100000) (hf:Zp w fb f lb sp np bp pp) (hL:vn w lb f.l) (hA:Rar w p q s) (nbf:¬ b=fb) (nbl:¬ b=lb) (nfl:¬ fb=lb) (nbp:¬ b=p) (nbq:¬ b=q) (nfp:¬ fb=p) (nfq:¬ fb=q) (nlp:¬ lb=p) (nlq:¬ lb=q) (hsp:sp=some sb) (hS:Vl w sb x) (nsp:sb≠p) (nsq:sb≠q) (nbs:¬ b=sb) (nfs:¬ fb=sb) (nF:b∉fv.ownBlock.toList/\fb∉fv.ownBlock.toList/\lb∉fv.ownBlock.toList/\p∉fv.ownBlock.toList/\q∉fv.ownBlock.toList) :
  Calls Tryz.prog 162 #[.pointer (some ⟨b,0,none⟩),.pointer (some ⟨p,0,none⟩)] w fun e w'=>e = .returned (.bool false)/\Z1 w' b m dv fv/\Zp w' fb { f with part:=if (x.step s).1.line=0 then 3 else 2 } lb sp np bp pp/\Vl w' sb (x.step s).1/\Rar w' p q (x.step s).2/\Fr [fb,sb,p,q] w w':=by
 subst hsp
 generalize hy:x.step s=y
 have HY:=q9 hy
 generalize hf9:({ f with part:=if y.1.line=0 then 3 else 2 }:Fm)=f9
 have HF9:=q9 hf9
 have HPT:=q9 hpt
 clear hy hf9
 obtain ⟨av,cv,rfl,hcv,hmv,-⟩:=id hF
 have hFl:(ifb++[fb]).length=ifb.length+1:=by simp
 rw [hFl] at h hF hcv nF ⊢
 clear hFl
 obtain ⟨gF,oF,rfl,cF⟩:=Z3 hF (show (ifb++[fb])[ifb.length]? = some fb by simp)
 obtain ⟨c0,c1,c2,c3,c4,c5,c6⟩:=zl h
 have hge:¬ ((ifb.length:Int)+1=0):=by omega
 go_enter Tryz.func162,Tryz.ntmps162
 go_wp2_with fail
 have k5:=qb c5
 have kF:=qb cF
 clear c0 c1 c2 c3 c4 c5 c6 cF
 refine wiq ?_
 repeat (go_big_quiet_step (fail))
 refine wpQuiet_nil ?_
 intro w1 F1
 have h1:Z1 w1 b m dv (.slice (some ⟨gF,oF,none⟩) (ifb.length+1) cv):=Ob.up h F1
 have f1:Zp w1 fb f lb (some sb) np bp pp:=Ob.up hf F1
 have l1:vn w1 lb f.l:=Ob.up hL F1
 have A1:=hA.kept F1
 have x1:Vl w1 sb x:=Ob.up hS F1
 clear hS
 clear k5 kF h hf hL hA hF
 obtain ⟨c0,c1,c2,c3,c4,c5,c6⟩:=zl h1
 obtain ⟨d0,d1,d2,d3,d4,d5,d6,d7,d8⟩:=zq f1
 rw [hpt] at d1
 clear hpt
 have z:=h1.frozen
 have zf:=f1.frozen
 unfold xw at d3
 simp only at d3
 go_wp2_with fail
 clear c0 c1 c2 c3 c4 c5 c6 d0 d1 d2 d3 d4 d5 d6 d7 d8 z zf
 refine (q4s x hxc sb p q s w1 x1 A1 nsp nsq).mono ?_;rintro e w2 ⟨rfl,x2,A2,F2⟩
 rw [HY.out] at x2 A2 ⊢
 have h2:Z1 w2 b m dv (.slice (some ⟨gF,oF,none⟩) (ifb.length+1) cv):=Ob.kept h1 F2 (by simp;exact ⟨nbs,nbp,nbq⟩)
 have f2:Zp w2 fb f lb (some sb) np bp pp:=Ob.kept f1 F2 (by simp;exact ⟨nfs,nfp,nfq⟩)
 have D2:Fr [fb,sb,p,q] w w2:=(F1.mono).trans (F2.mono)
 clear h1 f1 l1 A1 x1 F1 F2
 obtain ⟨c0,c1,c2,c3,c4,c5,c6⟩:=zl h2
 obtain ⟨d0,d1,d2,d3,d4,d5,d6,d7,d8⟩:=zq f2
 have z:=h2.frozen
 have zf:=f2.frozen
 obtain ⟨y1,y2⟩:=y
 by_cases hl0:y1.line=0
 ·have g0:decide (y1.line=0)=true:=by simpa using hl0
  simp only [g0]
  have HN:=q9 (show f9 = { f with part:=3 } by rw [<- HF9.out];simp only;rw [qf hl0])
  have HX:=q9 x2
  clear x2 hl0 g0
  go_wp2_with fail
  go_ret
  rw [HN.out]
  exact ⟨rfl,Ob.other h2 nbf _,Ob.set f2 _,Ob.other HX.out (Ne.symm nfs) _,Rar.set A2 nfp nfq _,D2.trans (Fr.setCell _ (by simp))⟩
 ·have g0:decide (y1.line=0)=false:=by simpa using hl0
  simp only [g0]
  have HN:=q9 (show f9=f by rw [<- HF9.out];simp only;rw [qd hl0,<- HPT.out])
  have HX:=q9 x2
  clear x2 hl0 g0
  go_wp2_with fail
  go_ret
  exact ⟨rfl,h2,by rw [HN.out];exact f2,HX.out,A2,D2⟩
theorem qap (m:Md) (f:Fm) (hpt:f.part=3) (hc:m.c.Ok) (b fb lb p q:Nat) (sp np bp pp:Option Nat) (dv fv:Value) (ifb:List Nat) (s:St) (w:World) (h:Z1 w b m dv fv) (hF:Sq fP w fv (ifb++[fb])) (hlen:ifb.length<=100000) (hf:Zp w fb f lb sp np bp pp) (hL:vn w lb f.l) (hA:Rar w p q s) (nbf:¬ b=fb) (nbl:¬ b=lb) (nfl:¬ fb=lb) (nbp:¬ b=p) (nbq:¬ b=q) (nfp:¬ fb=p) (nfq:¬ fb=q) (nlp:¬ lb=p) (nlq:¬ lb=q) (nF:b∉fv.ownBlock.toList/\fb∉fv.ownBlock.toList/\lb∉fv.ownBlock.toList/\p∉fv.ownBlock.toList/\q∉fv.ownBlock.toList) :
  Calls Tryz.prog 162 #[.pointer (some ⟨b,0,none⟩),.pointer (some ⟨p,0,none⟩)] w fun e w'=>e = .returned (.bool false)/\Z1 w' b m dv fv/\vn w' lb f.l/\AftR w w' m.c fb lb f sp np bp pp (qq s.l (wrap64 (f.l.three.1+5)))/\Rar w' p q (s.load (wrap64 (f.l.three.1+5)))/\Fr [fb,p,q] w w':=by
 generalize hr:qq s.l (wrap64 (f.l.three.1+5))=r
 have HR:=q9 hr
 clear hr
 obtain ⟨av,cv,rfl,hcv,hmv,-⟩:=id hF
 have hFl:(ifb++[fb]).length=ifb.length+1:=by simp
 rw [hFl] at h hF hcv nF ⊢
 clear hFl
 obtain ⟨gF,oF,rfl,cF⟩:=Z3 hF (show (ifb++[fb])[ifb.length]? = some fb by simp)
 obtain ⟨c0,c1,c2,c3,c4,c5,c6⟩:=zl h
 have hge:¬ ((ifb.length:Int)+1=0):=by omega
 go_enter Tryz.func162,Tryz.ntmps162
 go_wp2_with fail
 have k5:=qb c5
 have kF:=qb cF
 clear c0 c1 c2 c3 c4 c5 c6 cF
 refine wiq ?_
 repeat (go_big_quiet_step (fail))
 refine wpQuiet_nil ?_
 intro w1 F1
 have h1:Z1 w1 b m dv (.slice (some ⟨gF,oF,none⟩) (ifb.length+1) cv):=Ob.up h F1
 have f1:Zp w1 fb f lb sp np bp pp:=Ob.up hf F1
 have l1:vn w1 lb f.l:=Ob.up hL F1
 have A1:=hA.kept F1
 clear k5 kF h hf hL hA hF
 obtain ⟨c0,c1,c2,c3,c4,c5,c6⟩:=zl h1
 obtain ⟨d0,d1,d2,d3,d4,d5,d6,d7,d8⟩:=zq f1
 rw [hpt] at d1
 clear hpt
 have z:=h1.frozen
 have zf:=f1.frozen
 go_wp2_with fail
 clear c0 c1 c2 c3 c4 c5 c6 d0 d1 d2 d3 d4 d5 d6 d7 d8 z zf
 refine (Qh f.l lb w1 l1).mono ?_;rintro e w2 ⟨rfl,F2⟩
 have h2:=Ob.up h1 F2
 have f2:=Ob.up f1 F2
 have l2:=Ob.up l1 F2
 have A2:=A1.kept F2
 have D2:=F1.trans F2
 clear h1 f1 l1 A1 F1 F2
 obtain ⟨d0,d1,d2,d3,d4,d5,d6,d7,d8⟩:=zq f2
 have zf:=f2.frozen
 go_wp2_with fail
 have h3:=Ob.other h2 nbf (i:=1) (.int .i64 4)
 have f3:Zp _ fb { f with part:=4 } lb sp np bp pp:=Ob.set f2 (i:=1) (.int .i64 4)
 have l3:=Ob.other l2 (Ne.symm nfl) (i:=1) (.int .i64 4)
 have A3:=Rar.set A2 nfp nfq (i:=1) (.int .i64 4)
 have D3:Fr [fb,p,q] w (w2.setCell ⟨fb,1,none⟩ (.int .i64 4)):=(D2.mono).trans (Fr.setCell _ (by simp))
 clear d0 d1 d2 d3 d4 d5 d6 d7 d8 zf h2 f2 l2 A2 D2
 generalize (w2.setCell ⟨fb,1,none⟩ (.int .i64 4))=w3 at *
 refine (Ref.zi _ p q s _ A3).mono ?_;rintro e w4 ⟨rfl,A4,F4⟩
 have h4:=Ob.kept h3 F4 (by simp;exact ⟨nbp,nbq⟩)
 have f4:=Ob.kept f3 F4 (by simp;exact ⟨nfp,nfq⟩)
 have l4:=Ob.kept l3 F4 (by simp;exact ⟨nlp,nlq⟩)
 have D4:=D3.trans (F4.mono (T:=[fb,p,q]) (by simp))
 rw [HR.out]
 clear h3 f3 l3 A3 D3 F4
 obtain ⟨c0,c1,c2,c3,c4,c5,c6⟩:=zl h4
 have z:=h4.frozen
 by_cases hr0:r=0
 ·have HR0:=q9 hr0
  have g0:(r != 0)=false:=by simpa using hr0
  clear hr0
  go_wp2_with fail
  go_ret
  exact ⟨rfl,h4,l4,.inl ⟨HR0.out,f4⟩,A4,D4⟩
 ·have g0:(r != 0)=true:=by simpa using hr0
  have hr1:=q9 hr0
  clear hr0
  go_wp2_with fail
  clear g0 c0 c1 c2 c3 c4 c5 c6 z
  refine (X9 { f with part:=4 } m.c hc r fb lb sp np bp pp w4 f4 l4).mono ?_;rintro e w5 ⟨rfl,⟨pb,hpb,f5,p5⟩,F5⟩
  have h5:=Ob.kept h4 F5 (by simp;exact nbf)
  have l5:=Ob.kept l4 F5 (by simp;exact Ne.symm nfl)
  have A5:=A4.kept F5 (by simp;exact Ne.symm nfp) (by simp;exact Ne.symm nfq)
  have D5:=D4.trans (F5.mono (T:=[fb,p,q]) (by simp))
  have HPB:=q9 (qh D4.size hpb)
  clear h4 f4 l4 A4 D4 F5 hpb
  obtain ⟨c0,c1,c2,c3,c4,c5,c6⟩:=zl h5
  go_wp2_with fail
  go_ret
  exact ⟨rfl,h5,l5,.inr ⟨hr1.out,pb,HPB.out,f5,p5⟩,A5,D5⟩
theorem qam (m:Md) (f:Fm) (hpt:f.part=5) (hc:m.c.Ok) (x:Bd) (hx:Ze x) (bb:Nat) (Bb:List Nat) (b fb lb p q:Nat) (sp np bp pp:Option Nat) (dv fv:Value) (ifb:List Nat) (s:St) (w:World) (h:Z1 w b m dv fv) (hF:Sq fP w fv (ifb++[fb])) (hlen:ifb.length<=100000) (hf:Zp w fb f lb sp np bp pp) (hL:vn w lb f.l) (hA:Rar w p q s) (nbf:¬ b=fb) (nbl:¬ b=lb) (nfl:¬ fb=lb) (nbp:¬ b=p) (nbq:¬ b=q) (nfp:¬ fb=p) (nfq:¬ fb=q) (nlp:¬ lb=p) (nlq:¬ lb=q) (hbp:bp=some bb) (hB:Sk w Bb bb x) (nB:b∉Bb/\fb∉Bb/\lb∉Bb/\p∉Bb/\q∉Bb) (nF:b∉fv.ownBlock.toList/\fb∉fv.ownBlock.toList/\lb∉fv.ownBlock.toList/\p∉fv.ownBlock.toList/\q∉fv.ownBlock.toList) :
  Calls Tryz.prog 162 #[.pointer (some ⟨b,0,none⟩),.pointer (some ⟨p,0,none⟩)] w fun e w'=>Aft5 w w' m b dv fv fb lb bb f sp np pp Bb (x.step s).1 e/\vn w' lb f.l/\Rar w' p q (x.step s).2/\Fr (b :: fb :: p :: q :: Bb) w w':=by
 subst hbp
 generalize hy:x.step s=y
 have HY:=q9 hy
 have HFv:=q9 (Eq.refl fv)
 clear hy
 obtain ⟨y1,y2⟩:=y
 obtain ⟨av,cv,rfl,hcv,hmv,-⟩:=id hF
 have hFl:(ifb++[fb]).length=ifb.length+1:=by simp
 rw [hFl] at h hF hcv nF ⊢
 clear hFl
 obtain ⟨gF,oF,rfl,cF⟩:=Z3 hF (show (ifb++[fb])[ifb.length]? = some fb by simp)
 obtain ⟨c0,c1,c2,c3,c4,c5,c6⟩:=zl h
 have hge:¬ ((ifb.length:Int)+1=0):=by omega
 go_enter Tryz.func162,Tryz.ntmps162
 go_wp2_with fail
 have k5:=qb c5
 have kF:=qb cF
 clear c0 c1 c2 c3 c4 c5 c6 cF
 refine wiq ?_
 repeat (go_big_quiet_step (fail))
 refine wpQuiet_nil ?_
 intro w1 F1
 have h1:Z1 w1 b m dv (.slice (some ⟨gF,oF,none⟩) (ifb.length+1) cv):=Ob.up h F1
 have f1:Zp w1 fb f lb sp np (some bb) pp:=Ob.up hf F1
 have l1:vn w1 lb f.l:=Ob.up hL F1
 have A1:=hA.kept F1
 have x1:Sk w1 Bb bb x:=hB.kept F1 (by simp)
 clear hB
 clear k5 kF h hf hL hA hF
 obtain ⟨c0,c1,c2,c3,c4,c5,c6⟩:=zl h1
 obtain ⟨d0,d1,d2,d3,d4,d5,d6,d7,d8⟩:=zq f1
 rw [hpt] at d1
 clear hpt
 have z:=h1.frozen
 have zf:=f1.frozen
 unfold xw at d6
 simp only at d6
 go_wp2_with fail
 clear c0 c1 c2 c3 c4 c5 c6 d0 d1 d2 d3 d4 d5 d6 d7 d8 z zf
 refine (q2p x hx Bb bb p q s w1 x1 A1 nB.2.2.2.1 nB.2.2.2.2).mono ?_;rintro e w2 ⟨rfl,⟨B',x2,sub⟩,A2,F2⟩
 have h2:=Ob.kept h1 F2 (by simp;exact ⟨nbp,nbq,nB.1⟩)
 have f2:=Ob.kept f1 F2 (by simp;exact ⟨nfp,nfq,nB.2.1⟩)
 have l2:=Ob.kept l1 F2 (by simp;exact ⟨nlp,nlq,nB.2.2.1⟩)
 have D2:Fr (b :: fb :: p :: q :: Bb) w w2:=(F1.mono).trans (F2.mono (by intro k hk;simp at hk ⊢;rcases hk with h | h | h <;> simp [h]))
 have HSB:=q9 (fun k hk=>(sub k hk).imp id (fun e=>qh F1.size e))
 rw [HY.out] at x2 A2 ⊢
 simp only at x2 A2 ⊢
 clear h1 f1 l1 A1 x1 F1 F2 sub
 obtain ⟨c0,c1,c2,c3,c4,c5,c6⟩:=zl h2
 obtain ⟨d0,d1,d2,d3,d4,d5,d6,d7,d8⟩:=zq f2
 unfold xw at d6
 simp only at d6
 obtain ⟨u18,u19⟩:=W9 x2
 have z:=h2.frozen
 have zf:=f2.frozen
 have HX:=q9 x2
 clear x2
 by_cases hl0:y1.line=0
 ·have g0:decide (y1.line=0)=true:=by simpa using hl0
  rw [g0]
  have HL0:=q9 hl0
  clear hl0 g0
  by_cases he0:y1.e=0
  ·have ge:(y1.e != 0)=false:=by simpa using he0
   have HE0:=q9 he0
   clear he0
   go_wp2_with fail
   clear c0 c1 c2 c3 c4 c5 c6 d0 d1 d2 d3 d4 d5 d6 d7 d8 z zf ge u18 u19
   refine qo (by kernel_rfl) ?_
   refine z6 [] w2 #[true,true,true,true,true,true,true,true,true,true,true,true,false] 12 1 rfl ?_
   refine yx [true,true,true,true,true,true,true,true,true,true,true,true,false] 0 (n:=200) (listed':=#[true,true,true,true,true,true,true,true,true,true,true,true,false]) rfl (by kernel_rfl) (by kernel_rfl) (by kernel_rfl) (by kernel_rfl) rfl (by kernel_rfl) (fun _ _ d _ _ h=>by cases d <;> exact h) ((Fr.refl _ w2).drew) ?_
   apply qg
   refine ⟨fun wf Ff=>?_,?_⟩
   ·obtain ⟨c0,c1,c2,c3,-,-,-⟩:=zl (Ob.up h2 Ff)
    obtain ⟨-,-,-,-,-,-,d6,-,-⟩:=zq (Ob.up f2 Ff)
    unfold xw at d6
    simp only at d6
    obtain ⟨u18,-⟩:=W9 (HX.out.kept Ff (by simp))
    have k0:=qb c0
    have k1:=qb c1
    have k2:=qb c2
    have k3:=qb c3
    have k6:=qb d6
    have k18:=qb u18
    clear c0 c1 c2 c3 d6 u18
    simp only [sel]
    repeat (go_big_quiet_step (fail))
    exact wpQuiet_nil rfl
   refine qx (k:=12) rfl (by kernel_rfl) (fun w3 F3=>?_)
   have F23:=((Fr.refl [] w2).drew).trans F3
   have h3:=Ob.up h2 F23
   have f3:=Ob.up f2 F23
   have l3:=Ob.up l2 F23
   have A3:=A2.kept F23
   have D3:=D2.then F23
   clear h2 f2 l2 A2 D2 F3 F23
   go_wp2_with fail
   refine (X9 f m.c hc y1.repl fb lb sp np (some bb) pp w3 f3 l3).mono ?_;rintro e w5 ⟨rfl,⟨pb,hpb,f5,p5⟩,F5⟩
   have h5:=Ob.kept h3 F5 (by simp;exact nbf)
   have l5:=Ob.kept l3 F5 (by simp;exact Ne.symm nfl)
   have A5:=A3.kept F5 (by simp;exact Ne.symm nfp) (by simp;exact Ne.symm nfq)
   have D5:=D3.trans (F5.mono (T:=b :: fb :: p :: q :: Bb) (by simp))
   have HPB:=q9 (qh D3.size hpb)
   clear h3 f3 l3 A3 D3 F5 hpb
   obtain ⟨c0,c1,c2,c3,c4,c5,c6⟩:=zl h5
   go_wp2_with fail
   go_ret
   exact ⟨.inr (.inl ⟨HL0.out,HE0.out,rfl,h5,pb,HPB.out,f5,p5⟩),l5,A5,D5⟩
  have ge:(y1.e != 0)=true:=by simpa using he0
  have HE0:=q9 he0
  clear he0
  go_wp2_with fail
  go_ret
  exact ⟨.inr (.inr ⟨HL0.out,HE0.out,rfl,Ob.set (Ob.set h2 _) (i:=5) (.slice none 0 0)⟩),Ob.other (Ob.other l2 (Ne.symm nbl) _) (Ne.symm nbl) _,Rar.set (Rar.set A2 nbp nbq _) nbp nbq (i:=5) (.slice none 0 0),(D2.trans (Fr.setCell _ (by simp))).setCell' _ (by simp)⟩
 ·have g0:decide (y1.line=0)=false:=by simpa using hl0
  rw [g0]
  have HL0:=q9 hl0
  clear hl0 g0 u18 u19
  go_wp2_with fail
  go_ret
  exact ⟨.inl ⟨HL0.out,rfl,h2,f2,B',HX.out,HSB.out⟩,l2,A2,D2⟩
theorem qax (m:Md) (f:Fm) (hpt:f.part=1) (hc:m.c.Ok) (hlc:f.l.c.Ok) (b fb lb p q:Nat) (sp np bp pp:Option Nat) (dv fv:Value) (ifb:List Nat) (s:St) (w:World) (h:Z1 w b m dv fv) (hF:Sq fP w fv (ifb++[fb])) (hlen:ifb.length<=100000) (hf:Zp w fb f lb sp np bp pp) (hL:vn w lb f.l) (hA:Rar w p q s) (nbf:¬ b=fb) (nbl:¬ b=lb) (nfl:¬ fb=lb) (nbp:¬ b=p) (nbq:¬ b=q) (nfp:¬ fb=p) (nfq:¬ fb=q) (nlp:¬ lb=p) (nlq:¬ lb=q) (hD:Sq fI w dv m.draws) (nD:b∉dv.ownBlock.toList/\fb∉dv.ownBlock.toList/\lb∉dv.ownBlock.toList/\p∉dv.ownBlock.toList/\q∉dv.ownBlock.toList) (nF:b∉fv.ownBlock.toList/\fb∉fv.ownBlock.toList/\lb∉fv.ownBlock.toList/\p∉fv.ownBlock.toList/\q∉fv.ownBlock.toList) :
  Calls Tryz.prog 162 #[.pointer (some ⟨b,0,none⟩),.pointer (some ⟨p,0,none⟩)] w fun e w'=>Aft1 w w' m b dv fv fb lb f sp np bp pp (f.l.step s).1/\vn w' lb (f.l.step s).1/\Rar w' p q (f.l.step s).2/\Fr [b,fb,lb,p,q] w w'/\e = .returned (.bool false):=by
 generalize hy:f.l.step s=y
 have HY:=q9 hy
 clear hy
 obtain ⟨y1,y2⟩:=y
 obtain ⟨ad,cd,rfl,hcd,hmd,-⟩:=id hD
 obtain ⟨av,cv,rfl,hcv,hmv,-⟩:=id hF
 have hFl:(ifb++[fb]).length=ifb.length+1:=by simp
 rw [hFl] at h hF hcv nF ⊢
 clear hFl
 obtain ⟨gF,oF,rfl,cF⟩:=Z3 hF (show (ifb++[fb])[ifb.length]? = some fb by simp)
 obtain ⟨c0,c1,c2,c3,c4,c5,c6⟩:=zl h
 have hge:¬ ((ifb.length:Int)+1=0):=by omega
 go_enter Tryz.func162,Tryz.ntmps162
 go_wp2_with fail
 have k5:=qb c5
 have kF:=qb cF
 clear c0 c1 c2 c3 c4 c5 c6 cF
 refine wiq ?_
 repeat (go_big_quiet_step (fail))
 refine wpQuiet_nil ?_
 intro w1 F1
 have h1:Z1 w1 b m (Value.slice ad m.draws.length cd) (.slice (some ⟨gF,oF,none⟩) (ifb.length+1) cv):=Ob.up h F1
 have f1:Zp w1 fb f lb sp np bp pp:=Ob.up hf F1
 have l1:vn w1 lb f.l:=Ob.up hL F1
 have A1:=hA.kept F1
 have HD1:=q9 (hD.up F1)
 clear hD
 clear k5 kF h hf hL hA hF
 obtain ⟨c0,c1,c2,c3,c4,c5,c6⟩:=zl h1
 obtain ⟨d0,d1,d2,d3,d4,d5,d6,d7,d8⟩:=zq f1
 rw [hpt] at d1
 clear hpt
 have z:=h1.frozen
 have zf:=f1.frozen
 obtain ⟨-,-,-,-,-,-,e6,-,-,-,-,-,-,-⟩:=ze l1
 go_wp2_with fail
 clear c0 c1 c2 c3 c4 c5 c6 d0 d1 d2 d3 d4 d5 d6 d7 d8 z zf e6
 refine (q6i f.l hlc lb p q s w1 l1 A1 nlp nlq).mono ?_;rintro e w2 ⟨rfl,l2,A2,F2⟩
 have h2:=Ob.kept h1 F2 (by simp;exact ⟨nbl,nbp,nbq⟩)
 have f2:=Ob.kept f1 F2 (by simp;exact ⟨nfl,nfp,nfq⟩)
 have D2:Fr [b,fb,lb,p,q] w w2:=(F1.mono).trans (F2.mono)
 have HD2:=q9 (HD1.out.kept F2 (fun k hk hi=>by simp only [List.mem_cons,List.not_mem_nil,or_false] at hi;rcases hi with rfl | rfl | rfl;exact nD.2.2.1 hk;exact nD.2.2.2.1 hk;exact nD.2.2.2.2 hk))
 rw [HY.out] at l2 A2 ⊢
 simp only at l2 A2 ⊢
 clear h1 f1 l1 A1 F1 F2 HD1
 obtain ⟨-,-,-,-,-,-,e6,-,-,-,-,-,-,-⟩:=ze l2
 obtain ⟨c0,c1,c2,c3,c4,c5,c6⟩:=zl h2
 obtain ⟨d0,d1,d2,d3,d4,d5,d6,d7,d8⟩:=zq f2
 have z:=h2.frozen
 by_cases hl0:y1.line=0
 ·have g0:decide (y1.line=0)=true:=by simpa using hl0
  rw [g0]
  have HL0:=q9 hl0
  clear hl0 g0
  cases hdw:y1.drew
  focus
   rw [hdw] at e6
   have HDW:=q9 hdw
   clear hdw
   go_wp2_with fail
   clear c0 c1 c2 c3 c4 c5 c6 d0 d1 d2 d3 d4 d5 d6 d7 d8 z e6
   have HDV:=q9 (fun W (F:Fr [fb] w2 W)=>(show Sq fI W (Value.slice ad m.draws.length cd) (if y1.drew=true/\f.l.drew=false/\m.draws≠[] then m.draws.tail else m.draws) by rw [qd (by rw [HDW.out];simp)];exact HD2.out.kept F (fun k hk hi=>by simp at hi;subst hi;exact nD.2.1 hk)))
  rotate_left
  focus
   rw [hdw] at e6
   have HDW:=q9 hdw
   clear hdw
   cases hws:f.l.drew
   ·have HWS:=q9 hws
    clear hws
    by_cases hz:m.draws.length=0
    ·have hzz:((m.draws.length:Nat):Int)=0:=by omega
     have HZ:=q9 (List.eq_nil_of_length_eq_zero hz)
     clear hz
     go_wp2_with fail
     clear c0 c1 c2 c3 c4 c5 c6 d0 d1 d2 d3 d4 d5 d6 d7 d8 z e6 hzz
     have HDV:=q9 (fun W (F:Fr [fb] w2 W)=>(show Sq fI W (Value.slice ad m.draws.length cd) (if y1.drew=true/\f.l.drew=false/\m.draws≠[] then m.draws.tail else m.draws) by rw [qd (by rw [HZ.out];simp)];exact HD2.out.kept F (fun k hk hi=>by simp at hi;subst hi;exact nD.2.1 hk)))
     have HSUB:=q9 (fun (k:Nat) (hk:k∈(Value.slice ad m.draws.length cd).ownBlock.toList)=>hk)
     have h3:=h2
     have f3:=f2
     have l3:=l2
     have A3:=A2
     have D3:=D2
     clear h2 f2 l2 A2 D2
     obtain ⟨d0,d1,d2,d3,d4,d5,d6,d7,d8⟩:=zq f3
     have zf:=f3.frozen
     clear d0 d1 d2 d3 d4 d5 d6 d7 d8 zf
     refine (Qh y1 lb _ l3).mono ?_;rintro e w4 ⟨rfl,F4⟩
     have h4:=Ob.up h3 F4
     have f4:=Ob.up f3 F4
     have l4:=Ob.up l3 F4
     have A4:=A3.kept F4
     have D4:=D3.then F4
     have HF4:=q9 F4
     clear h3 f3 l3 A3 D3 F4
     obtain ⟨c0,c1,c2,c3,c4,c5,c6⟩:=zl h4
     obtain ⟨d0,d1,d2,d3,d4,d5,d6,d7,d8⟩:=zq f4
     have zf:=f4.frozen
     go_wp2_with fail
     clear c0 c1 c2 c3 c4 c5 c6 d0 d1 d2 d3 d4 d5 d6 d7 d8 zf
     refine (V8 m.c y1.three.1 y1.three.2.1 w4).mono ?_;rintro e w5 ⟨sb,rfl,hsb,s5,F5⟩
     have h5:=Ob.up h4 F5
     have f5:=Ob.up f4 F5
     have l5:=Ob.up l4 F5
     have A5:=A4.kept F5
     have D5:=D4.then F5
     have HS:=q9 (qh D4.size hsb)
     have nfs:¬ fb=sb:=by have:=Ob.lt f4;omega
     have HF5:=q9 (HF4.out.trans F5)
     clear h4 f4 l4 A4 D4 F5 hsb
     obtain ⟨c0,c1,c2,c3,c4,c5,c6⟩:=zl h5
     obtain ⟨d0,d1,d2,d3,d4,d5,d6,d7,d8⟩:=zq f5
     have zf:=f5.frozen
     go_wp2_with fail
     go_ret
     exact ⟨⟨⟨_,HDV.out _ ((HF5.out.mono (by simp)).trans ((Fr.setCell _ (by simp)).setCell' _ (by simp))),HSUB.out,Ob.other (Ob.other h5 nbf _) nbf _⟩,.inl ⟨HL0.out,sb,HS.out,Ob.set (Ob.set f5 _) (i:=3) (.pointer (some ⟨sb,0,none⟩)),Ob.other (Ob.other s5 (Ne.symm nfs) _) (Ne.symm nfs) _⟩⟩,Ob.other (Ob.other l5 (Ne.symm nfl) _) (Ne.symm nfl) _,Rar.set (Rar.set A5 nfp nfq _) nfp nfq (i:=3) (.pointer (some ⟨sb,0,none⟩)),(D5.trans (Fr.setCell _ (by simp))).setCell' _ (by simp),rfl⟩
    have hzz:(0:Int)<((m.draws.length:Nat):Int):=by omega
    obtain ⟨d,hd⟩:∃ d,m.draws[0]? = some d:=⟨m.draws[0]'(by omega),List.getElem?_eq_getElem _⟩
    obtain ⟨gd,od,rfl,d0⟩:=Zn HD2.out hd
    have HZ:=q9 hz
    clear hz hd d0
    by_cases hcd1:cd=1
    focus
     subst hcd1
     go_wp2_with fail
     clear c0 c1 c2 c3 c4 c5 c6 d0 d1 d2 d3 d4 d5 d6 d7 d8 z e6 hzz
     have S2:=(show Sq fI w2 (.slice (some ⟨gd,od,none⟩) 0 0) m.draws.tail from by have h0:=HZ.out;rw [List.eq_nil_of_length_eq_zero (show m.draws.tail.length=0 by rw [List.length_tail];omega)];exact Sq.empty _ _ (by simp [maxLen]))
     have h3:Z1 _ b m (.slice (some ⟨gd,od,none⟩) 0 0) _:=Ob.set h2 (i:=4) (.slice (some ⟨gd,od,none⟩) 0 0)
     have f3:=Ob.other f2 (Ne.symm nbf) (i:=4) (.slice (some ⟨gd,od,none⟩) 0 0)
     have l3:=Ob.other l2 (Ne.symm nbl) (i:=4) (.slice (some ⟨gd,od,none⟩) 0 0)
     have A3:=Rar.set A2 nbp nbq (i:=4) (.slice (some ⟨gd,od,none⟩) 0 0)
     have SB:Fr [b] w2 (w2.setCell ⟨b,4,none⟩ (.slice (some ⟨gd,od,none⟩) 0 0)):=Fr.setCell _ (by simp)
     have S3:=S2.kept SB (fun k hk hi=>by simp at hi;subst hi;exact nD.1 (by simpa [Value.ownBlock] using hk))
     have D3:=D2.trans (SB.mono (T:=[b,fb,lb,p,q]) (by simp))
     have HDV:=q9 (fun W (F:Fr [fb] (w2.setCell ⟨b,4,none⟩ (.slice (some ⟨gd,od,none⟩) 0 0)) W)=>(show Sq fI W (.slice (some ⟨gd,od,none⟩) 0 0) (if y1.drew=true/\f.l.drew=false/\m.draws≠[] then m.draws.tail else m.draws) by rw [qf ⟨HDW.out,HWS.out,fun e=>HZ.out (by rw [e];rfl)⟩];exact S3.kept F (fun k hk hi=>by simp at hi;subst hi;exact nD.2.1 (by simpa [Value.ownBlock] using hk))))
     have HSUB:=q9 (fun (k:Nat) (hk:k∈(Value.ownBlock (.slice (some ⟨gd,od,none⟩) 0 0)).toList)=>(show k∈(Value.slice (some ⟨gd,od,none⟩) m.draws.length 1).ownBlock.toList by simpa [Value.ownBlock] using hk))
     clear h2 f2 l2 A2 D2 S2 S3 SB
     generalize (w2.setCell ⟨b,4,none⟩ (.slice (some ⟨gd,od,none⟩) 0 0))=w3 at *
    rotate_left
    focus
     go_wp2_with fail
     clear c0 c1 c2 c3 c4 c5 c6 d0 d1 d2 d3 d4 d5 d6 d7 d8 z e6 hzz
     have S2:=(show Sq fI w2 (.slice (some ⟨gd,od+1,none⟩) (m.draws.length - 1) (cd - 1)) m.draws.tail from by have h0:=Sq.drop yc HD2.out 1 (by have:=HZ.out;omega);rw [Nat.one_mul,List.drop_one] at h0;exact h0)
     have h3:Z1 _ b m (.slice (some ⟨gd,od+1,none⟩) (m.draws.length - 1) (cd - 1)) _:=Ob.set h2 (i:=4) (.slice (some ⟨gd,od+1,none⟩) (m.draws.length - 1) (cd - 1))
     have f3:=Ob.other f2 (Ne.symm nbf) (i:=4) (.slice (some ⟨gd,od+1,none⟩) (m.draws.length - 1) (cd - 1))
     have l3:=Ob.other l2 (Ne.symm nbl) (i:=4) (.slice (some ⟨gd,od+1,none⟩) (m.draws.length - 1) (cd - 1))
     have A3:=Rar.set A2 nbp nbq (i:=4) (.slice (some ⟨gd,od+1,none⟩) (m.draws.length - 1) (cd - 1))
     have SB:Fr [b] w2 (w2.setCell ⟨b,4,none⟩ (.slice (some ⟨gd,od+1,none⟩) (m.draws.length - 1) (cd - 1))):=Fr.setCell _ (by simp)
     have S3:=S2.kept SB (fun k hk hi=>by simp at hi;subst hi;exact nD.1 (by simpa [Value.ownBlock] using hk))
     have D3:=D2.trans (SB.mono (T:=[b,fb,lb,p,q]) (by simp))
     have HDV:=q9 (fun W (F:Fr [fb] (w2.setCell ⟨b,4,none⟩ (.slice (some ⟨gd,od+1,none⟩) (m.draws.length - 1) (cd - 1))) W)=>(show Sq fI W (.slice (some ⟨gd,od+1,none⟩) (m.draws.length - 1) (cd - 1)) (if y1.drew=true/\f.l.drew=false/\m.draws≠[] then m.draws.tail else m.draws) by rw [qf ⟨HDW.out,HWS.out,fun e=>HZ.out (by rw [e];rfl)⟩];exact S3.kept F (fun k hk hi=>by simp at hi;subst hi;exact nD.2.1 (by simpa [Value.ownBlock] using hk))))
     have HSUB:=q9 (fun (k:Nat) (hk:k∈(Value.ownBlock (.slice (some ⟨gd,od+1,none⟩) (m.draws.length - 1) (cd - 1))).toList)=>(show k∈(Value.slice (some ⟨gd,od,none⟩) m.draws.length cd).ownBlock.toList by simpa [Value.ownBlock] using hk))
     clear h2 f2 l2 A2 D2 S2 S3 SB
     generalize (w2.setCell ⟨b,4,none⟩ (.slice (some ⟨gd,od+1,none⟩) (m.draws.length - 1) (cd - 1)))=w3 at *
    rotate_left
    all_goals
     obtain ⟨d0,d1,d2,d3,d4,d5,d6,d7,d8⟩:=zq f3
     have zf:=f3.frozen
     clear d0 d1 d2 d3 d4 d5 d6 d7 d8 zf
     refine (Qh y1 lb _ l3).mono ?_;rintro e w4 ⟨rfl,F4⟩
     have h4:=Ob.up h3 F4
     have f4:=Ob.up f3 F4
     have l4:=Ob.up l3 F4
     have A4:=A3.kept F4
     have D4:=D3.then F4
     have HF4:=q9 F4
     clear h3 f3 l3 A3 D3 F4
     obtain ⟨c0,c1,c2,c3,c4,c5,c6⟩:=zl h4
     obtain ⟨d0,d1,d2,d3,d4,d5,d6,d7,d8⟩:=zq f4
     have zf:=f4.frozen
     go_wp2_with fail
     clear c0 c1 c2 c3 c4 c5 c6 d0 d1 d2 d3 d4 d5 d6 d7 d8 zf
     refine (V8 m.c y1.three.1 y1.three.2.1 w4).mono ?_;rintro e w5 ⟨sb,rfl,hsb,s5,F5⟩
     have h5:=Ob.up h4 F5
     have f5:=Ob.up f4 F5
     have l5:=Ob.up l4 F5
     have A5:=A4.kept F5
     have D5:=D4.then F5
     have HS:=q9 (qh D4.size hsb)
     have nfs:¬ fb=sb:=by have:=Ob.lt f4;omega
     have HF5:=q9 (HF4.out.trans F5)
     clear h4 f4 l4 A4 D4 F5 hsb
     obtain ⟨c0,c1,c2,c3,c4,c5,c6⟩:=zl h5
     obtain ⟨d0,d1,d2,d3,d4,d5,d6,d7,d8⟩:=zq f5
     have zf:=f5.frozen
     go_wp2_with fail
     go_ret
     exact ⟨⟨⟨_,HDV.out _ ((HF5.out.mono (by simp)).trans ((Fr.setCell _ (by simp)).setCell' _ (by simp))),HSUB.out,Ob.other (Ob.other h5 nbf _) nbf _⟩,.inl ⟨HL0.out,sb,HS.out,Ob.set (Ob.set f5 _) (i:=3) (.pointer (some ⟨sb,0,none⟩)),Ob.other (Ob.other s5 (Ne.symm nfs) _) (Ne.symm nfs) _⟩⟩,Ob.other (Ob.other l5 (Ne.symm nfl) _) (Ne.symm nfl) _,Rar.set (Rar.set A5 nfp nfq _) nfp nfq (i:=3) (.pointer (some ⟨sb,0,none⟩)),(D5.trans (Fr.setCell _ (by simp))).setCell' _ (by simp),rfl⟩
   have HWS:=q9 hws
   clear hws
   go_wp2_with fail
   clear c0 c1 c2 c3 c4 c5 c6 d0 d1 d2 d3 d4 d5 d6 d7 d8 z e6
   have HDV:=q9 (fun W (F:Fr [fb] w2 W)=>(show Sq fI W (Value.slice ad m.draws.length cd) (if y1.drew=true/\f.l.drew=false/\m.draws≠[] then m.draws.tail else m.draws) by rw [qd (by rw [HWS.out];simp)];exact HD2.out.kept F (fun k hk hi=>by simp at hi;subst hi;exact nD.2.1 hk)))
  rotate_left
  all_goals
   have HSUB:=q9 (fun (k:Nat) (hk:k∈(Value.slice ad m.draws.length cd).ownBlock.toList)=>hk)
   have h3:=h2
   have f3:=f2
   have l3:=l2
   have A3:=A2
   have D3:=D2
   clear h2 f2 l2 A2 D2
   obtain ⟨d0,d1,d2,d3,d4,d5,d6,d7,d8⟩:=zq f3
   have zf:=f3.frozen
   clear d0 d1 d2 d3 d4 d5 d6 d7 d8 zf
   refine (Qh y1 lb _ l3).mono ?_;rintro e w4 ⟨rfl,F4⟩
   have h4:=Ob.up h3 F4
   have f4:=Ob.up f3 F4
   have l4:=Ob.up l3 F4
   have A4:=A3.kept F4
   have D4:=D3.then F4
   have HF4:=q9 F4
   clear h3 f3 l3 A3 D3 F4
   obtain ⟨c0,c1,c2,c3,c4,c5,c6⟩:=zl h4
   obtain ⟨d0,d1,d2,d3,d4,d5,d6,d7,d8⟩:=zq f4
   have zf:=f4.frozen
   go_wp2_with fail
   clear c0 c1 c2 c3 c4 c5 c6 d0 d1 d2 d3 d4 d5 d6 d7 d8 zf
   refine (V8 m.c y1.three.1 y1.three.2.1 w4).mono ?_;rintro e w5 ⟨sb,rfl,hsb,s5,F5⟩
   have h5:=Ob.up h4 F5
   have f5:=Ob.up f4 F5
   have l5:=Ob.up l4 F5
   have A5:=A4.kept F5
   have D5:=D4.then F5
   have HS:=q9 (qh D4.size hsb)
   have nfs:¬ fb=sb:=by have:=Ob.lt f4;omega
   have HF5:=q9 (HF4.out.trans F5)
   clear h4 f4 l4 A4 D4 F5 hsb
   obtain ⟨c0,c1,c2,c3,c4,c5,c6⟩:=zl h5
   obtain ⟨d0,d1,d2,d3,d4,d5,d6,d7,d8⟩:=zq f5
   have zf:=f5.frozen
   go_wp2_with fail
   go_ret
   exact ⟨⟨⟨_,HDV.out _ ((HF5.out.mono (by simp)).trans ((Fr.setCell _ (by simp)).setCell' _ (by simp))),HSUB.out,Ob.other (Ob.other h5 nbf _) nbf _⟩,.inl ⟨HL0.out,sb,HS.out,Ob.set (Ob.set f5 _) (i:=3) (.pointer (some ⟨sb,0,none⟩)),Ob.other (Ob.other s5 (Ne.symm nfs) _) (Ne.symm nfs) _⟩⟩,Ob.other (Ob.other l5 (Ne.symm nfl) _) (Ne.symm nfl) _,Rar.set (Rar.set A5 nfp nfq _) nfp nfq (i:=3) (.pointer (some ⟨sb,0,none⟩)),(D5.trans (Fr.setCell _ (by simp))).setCell' _ (by simp),rfl⟩
 ·have g0:decide (y1.line=0)=false:=by simpa using hl0
  rw [g0]
  have HL0:=q9 hl0
  clear hl0 g0
  cases hdw:y1.drew
  focus
   rw [hdw] at e6
   have HDW:=q9 hdw
   clear hdw
   go_wp2_with fail
   clear c0 c1 c2 c3 c4 c5 c6 d0 d1 d2 d3 d4 d5 d6 d7 d8 z e6
   have HDV:=q9 (fun W (F:Fr [fb] w2 W)=>(show Sq fI W (Value.slice ad m.draws.length cd) (if y1.drew=true/\f.l.drew=false/\m.draws≠[] then m.draws.tail else m.draws) by rw [qd (by rw [HDW.out];simp)];exact HD2.out.kept F (fun k hk hi=>by simp at hi;subst hi;exact nD.2.1 hk)))
  rotate_left
  focus
   rw [hdw] at e6
   have HDW:=q9 hdw
   clear hdw
   cases hws:f.l.drew
   ·have HWS:=q9 hws
    clear hws
    by_cases hz:m.draws.length=0
    ·have hzz:((m.draws.length:Nat):Int)=0:=by omega
     have HZ:=q9 (List.eq_nil_of_length_eq_zero hz)
     clear hz
     go_wp2_with fail
     clear c0 c1 c2 c3 c4 c5 c6 d0 d1 d2 d3 d4 d5 d6 d7 d8 z e6 hzz
     have HDV:=q9 (fun W (F:Fr [fb] w2 W)=>(show Sq fI W (Value.slice ad m.draws.length cd) (if y1.drew=true/\f.l.drew=false/\m.draws≠[] then m.draws.tail else m.draws) by rw [qd (by rw [HZ.out];simp)];exact HD2.out.kept F (fun k hk hi=>by simp at hi;subst hi;exact nD.2.1 hk)))
     have HSUB:=q9 (fun (k:Nat) (hk:k∈(Value.slice ad m.draws.length cd).ownBlock.toList)=>hk)
     have h3:=h2
     have f3:=f2
     have l3:=l2
     have A3:=A2
     have D3:=D2
     clear h2 f2 l2 A2 D2
     obtain ⟨d0,d1,d2,d3,d4,d5,d6,d7,d8⟩:=zq f3
     have zf:=f3.frozen
     go_ret
     exact ⟨⟨⟨_,HDV.out _ (Fr.refl _ _),HSUB.out,h3⟩,.inr ⟨HL0.out,f3⟩⟩,l3,A3,D3,rfl⟩
    have hzz:(0:Int)<((m.draws.length:Nat):Int):=by omega
    obtain ⟨d,hd⟩:∃ d,m.draws[0]? = some d:=⟨m.draws[0]'(by omega),List.getElem?_eq_getElem _⟩
    obtain ⟨gd,od,rfl,d0⟩:=Zn HD2.out hd
    have HZ:=q9 hz
    clear hz hd d0
    by_cases hcd1:cd=1
    ·subst hcd1
     go_wp2_with fail
     clear c0 c1 c2 c3 c4 c5 c6 d0 d1 d2 d3 d4 d5 d6 d7 d8 z e6 hzz
     have S2:=(show Sq fI w2 (.slice (some ⟨gd,od,none⟩) 0 0) m.draws.tail from by have h0:=HZ.out;rw [List.eq_nil_of_length_eq_zero (show m.draws.tail.length=0 by rw [List.length_tail];omega)];exact Sq.empty _ _ (by simp [maxLen]))
     have h3:Z1 _ b m (.slice (some ⟨gd,od,none⟩) 0 0) _:=Ob.set h2 (i:=4) (.slice (some ⟨gd,od,none⟩) 0 0)
     have f3:=Ob.other f2 (Ne.symm nbf) (i:=4) (.slice (some ⟨gd,od,none⟩) 0 0)
     have l3:=Ob.other l2 (Ne.symm nbl) (i:=4) (.slice (some ⟨gd,od,none⟩) 0 0)
     have A3:=Rar.set A2 nbp nbq (i:=4) (.slice (some ⟨gd,od,none⟩) 0 0)
     have SB:Fr [b] w2 (w2.setCell ⟨b,4,none⟩ (.slice (some ⟨gd,od,none⟩) 0 0)):=Fr.setCell _ (by simp)
     have S3:=S2.kept SB (fun k hk hi=>by simp at hi;subst hi;exact nD.1 (by simpa [Value.ownBlock] using hk))
     have D3:=D2.trans (SB.mono (T:=[b,fb,lb,p,q]) (by simp))
     have HDV:=q9 (fun W (F:Fr [fb] (w2.setCell ⟨b,4,none⟩ (.slice (some ⟨gd,od,none⟩) 0 0)) W)=>(show Sq fI W (.slice (some ⟨gd,od,none⟩) 0 0) (if y1.drew=true/\f.l.drew=false/\m.draws≠[] then m.draws.tail else m.draws) by rw [qf ⟨HDW.out,HWS.out,fun e=>HZ.out (by rw [e];rfl)⟩];exact S3.kept F (fun k hk hi=>by simp at hi;subst hi;exact nD.2.1 (by simpa [Value.ownBlock] using hk))))
     have HSUB:=q9 (fun (k:Nat) (hk:k∈(Value.ownBlock (.slice (some ⟨gd,od,none⟩) 0 0)).toList)=>(show k∈(Value.slice (some ⟨gd,od,none⟩) m.draws.length 1).ownBlock.toList by simpa [Value.ownBlock] using hk))
     clear h2 f2 l2 A2 D2 S2 S3 SB
     generalize (w2.setCell ⟨b,4,none⟩ (.slice (some ⟨gd,od,none⟩) 0 0))=w3 at *
     obtain ⟨d0,d1,d2,d3,d4,d5,d6,d7,d8⟩:=zq f3
     have zf:=f3.frozen
     go_ret
     exact ⟨⟨⟨_,HDV.out _ (Fr.refl _ _),HSUB.out,h3⟩,.inr ⟨HL0.out,f3⟩⟩,l3,A3,D3,rfl⟩
    go_wp2_with fail
    clear c0 c1 c2 c3 c4 c5 c6 d0 d1 d2 d3 d4 d5 d6 d7 d8 z e6 hzz
    have S2:=(show Sq fI w2 (.slice (some ⟨gd,od+1,none⟩) (m.draws.length - 1) (cd - 1)) m.draws.tail from by have h0:=Sq.drop yc HD2.out 1 (by have:=HZ.out;omega);rw [Nat.one_mul,List.drop_one] at h0;exact h0)
    have h3:Z1 _ b m (.slice (some ⟨gd,od+1,none⟩) (m.draws.length - 1) (cd - 1)) _:=Ob.set h2 (i:=4) (.slice (some ⟨gd,od+1,none⟩) (m.draws.length - 1) (cd - 1))
    have f3:=Ob.other f2 (Ne.symm nbf) (i:=4) (.slice (some ⟨gd,od+1,none⟩) (m.draws.length - 1) (cd - 1))
    have l3:=Ob.other l2 (Ne.symm nbl) (i:=4) (.slice (some ⟨gd,od+1,none⟩) (m.draws.length - 1) (cd - 1))
    have A3:=Rar.set A2 nbp nbq (i:=4) (.slice (some ⟨gd,od+1,none⟩) (m.draws.length - 1) (cd - 1))
    have SB:Fr [b] w2 (w2.setCell ⟨b,4,none⟩ (.slice (some ⟨gd,od+1,none⟩) (m.draws.length - 1) (cd - 1))):=Fr.setCell _ (by simp)
    have S3:=S2.kept SB (fun k hk hi=>by simp at hi;subst hi;exact nD.1 (by simpa [Value.ownBlock] using hk))
    have D3:=D2.trans (SB.mono (T:=[b,fb,lb,p,q]) (by simp))
    have HDV:=q9 (fun W (F:Fr [fb] (w2.setCell ⟨b,4,none⟩ (.slice (some ⟨gd,od+1,none⟩) (m.draws.length - 1) (cd - 1))) W)=>(show Sq fI W (.slice (some ⟨gd,od+1,none⟩) (m.draws.length - 1) (cd - 1)) (if y1.drew=true/\f.l.drew=false/\m.draws≠[] then m.draws.tail else m.draws) by rw [qf ⟨HDW.out,HWS.out,fun e=>HZ.out (by rw [e];rfl)⟩];exact S3.kept F (fun k hk hi=>by simp at hi;subst hi;exact nD.2.1 (by simpa [Value.ownBlock] using hk))))
    have HSUB:=q9 (fun (k:Nat) (hk:k∈(Value.ownBlock (.slice (some ⟨gd,od+1,none⟩) (m.draws.length - 1) (cd - 1))).toList)=>(show k∈(Value.slice (some ⟨gd,od,none⟩) m.draws.length cd).ownBlock.toList by simpa [Value.ownBlock] using hk))
    clear h2 f2 l2 A2 D2 S2 S3 SB
    generalize (w2.setCell ⟨b,4,none⟩ (.slice (some ⟨gd,od+1,none⟩) (m.draws.length - 1) (cd - 1)))=w3 at *
    obtain ⟨d0,d1,d2,d3,d4,d5,d6,d7,d8⟩:=zq f3
    have zf:=f3.frozen
    go_ret
    exact ⟨⟨⟨_,HDV.out _ (Fr.refl _ _),HSUB.out,h3⟩,.inr ⟨HL0.out,f3⟩⟩,l3,A3,D3,rfl⟩
   have HWS:=q9 hws
   clear hws
   go_wp2_with fail
   clear c0 c1 c2 c3 c4 c5 c6 d0 d1 d2 d3 d4 d5 d6 d7 d8 z e6
   have HDV:=q9 (fun W (F:Fr [fb] w2 W)=>(show Sq fI W (Value.slice ad m.draws.length cd) (if y1.drew=true/\f.l.drew=false/\m.draws≠[] then m.draws.tail else m.draws) by rw [qd (by rw [HWS.out];simp)];exact HD2.out.kept F (fun k hk hi=>by simp at hi;subst hi;exact nD.2.1 hk)))
  rotate_left
  all_goals
   have HSUB:=q9 (fun (k:Nat) (hk:k∈(Value.slice ad m.draws.length cd).ownBlock.toList)=>hk)
   have h3:=h2
   have f3:=f2
   have l3:=l2
   have A3:=A2
   have D3:=D2
   clear h2 f2 l2 A2 D2
   obtain ⟨d0,d1,d2,d3,d4,d5,d6,d7,d8⟩:=zq f3
   have zf:=f3.frozen
   go_ret
   exact ⟨⟨⟨_,HDV.out _ (Fr.refl _ _),HSUB.out,h3⟩,.inr ⟨HL0.out,f3⟩⟩,l3,A3,D3,rfl⟩
theorem q3d (m:Md) (f:Fm) (hc:m.c.Ok) (b fb lb p q:Nat) (sp np bp pp:Option Nat) (dv fv:Value) (s:St) (w:World) (h:Z1 w b m dv fv) (hf:Zp w fb f lb sp np bp pp) (hL:vn w lb f.l) (hA:Rar w p q s) (nbf:¬ b=fb) (nbl:¬ b=lb) (nfl:¬ fb=lb) (nbp:¬ b=p) (nbq:¬ b=q) (nfp:¬ fb=p) (nfq:¬ fb=q) (nlp:¬ lb=p) (nlq:¬ lb=q) (hnp:np=none) :
  Calls Tryz.prog 186 #[.pointer (some ⟨b,0,none⟩),.pointer (some ⟨p,0,none⟩),.pointer (some ⟨fb,0,none⟩)] w fun e w'=>e = .returned (.tuple #[])/\Z1 w' b m dv fv/\vn w' lb f.l/\(∃ nb,w.heap.size<=nb/\Zp w' fb f lb sp (some nb) bp pp/\V4 w' nb (Nd.new m.c))/\Rar w' p q (s.load 1)/\Fr [fb,p,q] w w':=by
 subst hnp
 obtain ⟨d0,d1,d2,d3,d4,d5,d6,d7,d8⟩:=zq hf
 unfold xw at d4
 simp only at d4
 go_enter Tryz.func186,Tryz.ntmps186
 go_wp2_with fail
 clear d0 d1 d2 d3 d4 d5 d6 d7 d8
 refine (Ref.zi _ p q s _ hA).mono ?_;rintro e w1 ⟨rfl,A1,F1⟩
 have h1:=Ob.kept h F1 (by simp;exact ⟨nbp,nbq⟩)
 have f1:=Ob.kept hf F1 (by simp;exact ⟨nfp,nfq⟩)
 have l1:=Ob.kept hL F1 (by simp;exact ⟨nlp,nlq⟩)
 have D1:Fr [fb,p,q] w w1:=F1.mono
 clear h hf hL hA F1
 obtain ⟨c0,c1,c2,c3,c4,c5,c6⟩:=zl h1
 have z:=h1.frozen
 go_wp2_with fail
 clear c0 c1 c2 c3 c4 c5 c6 z
 refine (q0g m.c w1).mono ?_;rintro e w2 ⟨nb,rfl,hnb,n2,F2⟩
 have h2:=Ob.up h1 F2
 have f2:=Ob.up f1 F2
 have l2:=Ob.up l1 F2
 have A2:=A1.kept F2
 have D2:=D1.then F2
 have HNB:=q9 (qh D1.size hnb)
 have nfn:¬ fb=nb:=by have:=Ob.lt f1;omega
 clear h1 f1 l1 A1 D1 F2 hnb
 obtain ⟨d0,d1,d2,d3,d4,d5,d6,d7,d8⟩:=zq f2
 have zf:=f2.frozen
 go_wp2_with fail
 refine bodyPost_ret (v:=.tuple #[]) (by simp [results,Tryz.results186,go_sem]) rfl ?_
 exact ⟨rfl,Ob.other h2 nbf _,Ob.other l2 (Ne.symm nfl) _,⟨nb,HNB.out,Ob.set f2 _,Ob.other n2 (Ne.symm nfn) _⟩,Rar.set A2 nfp nfq _,D2.trans (Fr.setCell _ (by simp))⟩
theorem q49 (m:Md) (f:Fm) (hc:m.c.Ok) (x:Nd) (hxc:x.c.Ok) (hxt:0<=x.t/\x.t<=8) (hxl:x.l.length<=1000) (nb:Nat) (b fb lb p q:Nat) (sp np bp pp:Option Nat) (dv fv:Value) (s:St) (w:World) (h:Z1 w b m dv fv) (hf:Zp w fb f lb sp np bp pp) (hL:vn w lb f.l) (hA:Rar w p q s) (nbf:¬ b=fb) (nbl:¬ b=lb) (nfl:¬ fb=lb) (nbp:¬ b=p) (nbq:¬ b=q) (nfp:¬ fb=p) (nfq:¬ fb=q) (nlp:¬ lb=p) (nlq:¬ lb=q) (hnp:np=some nb) (hN:V4 w nb x) (hS:Sq fI w x.lv x.l) (nnl:nb∉x.lv.ownBlock.toList) (npl:p∉x.lv.ownBlock.toList) (nql:q∉x.lv.ownBlock.toList) (nnp:nb≠p) (nnq:nb≠q) (nbn:¬ b=nb) (nfn:¬ fb=nb) (nln:¬ lb=nb) (nfv:fb∉x.lv.ownBlock.toList) (hlt:∀ k,k∈x.lv.ownBlock.toList->k<w.heap.size) :
  Calls Tryz.prog 186 #[.pointer (some ⟨b,0,none⟩),.pointer (some ⟨p,0,none⟩),.pointer (some ⟨fb,0,none⟩)] w fun e w'=>e = .returned (.tuple #[])/\Z1 w' b m dv fv/\vn w' lb f.l/\qd0 w w' m fb lb nb f sp bp pp x.lv (x.step s).1/\Rar w' p q (x.step s).2/\Fr [fb,nb,p,q] w w':=by
 subst hnp
 generalize hy:x.step s=y
 have HY:=q9 hy
 clear hy
 obtain ⟨y1,y2⟩:=y
 obtain ⟨d0,d1,d2,d3,d4,d5,d6,d7,d8⟩:=zq hf
 unfold xw at d4
 simp only at d4
 go_enter Tryz.func186,Tryz.ntmps186
 go_wp2_with fail
 clear d0 d1 d2 d3 d4 d5 d6 d7 d8
 refine (q6z x hxc hxt nb p q s w hN hA nnp nnq hS nnl npl nql hxl).mono ?_;rintro e w1 ⟨rfl,⟨lv',n1,s1,hlv⟩,A1,F1⟩
 have h1:=Ob.kept h F1 (by simp;exact ⟨nbn,nbp,nbq⟩)
 have f1:=Ob.kept hf F1 (by simp;exact ⟨nfn,nfp,nfq⟩)
 have l1:=Ob.kept hL F1 (by simp;exact ⟨nln,nlp,nlq⟩)
 have D1:Fr [fb,nb,p,q] w w1:=F1.mono
 rw [HY.out] at n1 s1 A1 hlv ⊢
 simp only at n1 s1 A1 hlv ⊢
 have HFW:=q9 (Ob.lt hf)
 clear h hf hL hA F1 hN hS
 by_cases hl0:y1.line=0
 ·have g0:decide (y1.line=0)=true:=by simpa using hl0
  rw [g0]
  have HL0:=q9 hl0
  clear hl0 g0
  obtain ⟨d0,d1,d2,d3,d4,d5,d6,d7,d8⟩:=zq f1
  go_wp2_with fail
  clear d0 d1 d2 d3 d4 d5 d6 d7 d8
  refine (Qh f.l lb w1 l1).mono ?_;rintro e w2 ⟨rfl,F2⟩
  have h2:=Ob.up h1 F2
  have f2:=Ob.up f1 F2
  have l2:=Ob.up l1 F2
  have n2:=Ob.up n1 F2
  have s2:=s1.up F2
  have A2:=A1.kept F2
  have D2:=D1.then F2
  clear h1 f1 l1 n1 s1 A1 D1 F2
  go_wp2_with fail
  refine qo (by kernel_rfl) ?_
  refine yh 1 rfl (by kernel_rfl) (by kernel_rfl) (by kernel_rfl) rfl (fun _ _ d _ _ h=>by cases d <;> exact h) ?_
  go_frame
  refine z6 [] w2 #[true,true,true,true,true,true,true,true,true,true,true,true,true,true,true,false,false,false,false,false,false] 14 6 rfl ?_
  refine yx [true,false,true,true,true,true,true,true,true,true,true,true,true,false,false,false,false,false,false,false,false] 2 (n:=58) (listed':=#[true,true,true,true,true,true,true,true,true,true,true,true,true,false,false,false,false,false,false,false,false]) rfl (by kernel_rfl) (by kernel_rfl) (by kernel_rfl) (by kernel_rfl) rfl (by kernel_rfl) (fun _ _ d _ _ h=>by cases d <;> exact h) ((Fr.refl _ w2).drew) ?_
  apply qg
  refine ⟨fun wf Ff=>?_,?_⟩
  ·obtain ⟨c0,c1,c2,c3,-,-,-⟩:=zl (Ob.up h2 Ff)
   obtain ⟨-,-,-,-,d4,-,-,-,-⟩:=zq (Ob.up f2 Ff)
   unfold xw at d4
   simp only at d4
   have k0:=qb c0
   have k1:=qb c1
   have k2:=qb c2
   have k3:=qb c3
   have k4:=qb d4
   clear c0 c1 c2 c3 d4
   simp only [sel]
   repeat (go_big_quiet_step (fail))
   exact wpQuiet_nil rfl
  refine loq 13 (fun w3 F3=>?_)
  have E:=((Fr.refl [] w2).drew.trans F3)
  clear F3
  go_wp2_with fail
  refine (Tf { y1 with lv:=lv' } HL0.out nb w3 (Ob.up n2 E)).mono ?_;rintro e w4 ⟨rfl,rfl⟩
  go_wp2_with fail
  refine ql ⟨E,?_⟩
  refine loq 14 (fun w5 F5=>?_)
  replace E:=E.trans F5
  clear F5
  have HE5:=q9 E.size
  have hlt5:∀ k,k∈lv'.ownBlock.toList->k<w5.heap.size:=fun k hk=>by
   rcases hlv with e | ⟨hne,-⟩
   ·rw [e] at hk;exact qj (hlt k hk) (qh D2.size E.size)
   ·exact qj (Q7 s2 hne k hk) E.size
  go_wp2_with fail
  refine (Uw m.c f.l.three.1 f.l.three.2.1 f.l.three.2.2 y1.l lv' w5 (s2.up E) hlt5).mono ?_;rintro e w6 ⟨bb,B,rfl,hbb,hB6,b6,F6⟩
  replace E:=E.trans F6
  clear hlt5
  go_wp2_with fail
  refine ql ⟨E,?_⟩
  refine qx (k:=15) rfl (by kernel_rfl) (fun w10 F10=>?_)
  replace E:=E.trans F10
  have hB10:=hB6.kept F10 (by simp)
  have h10:=Ob.up h2 E
  have f10:=Ob.up f2 E
  have l10:=Ob.up l2 E
  have A10:=A2.kept E
  have D10:=D2.then E
  have HBB:=q9 (qc (qh D2.size (qh HE5.out hbb)) (show ∀ k,k∈B->k∈x.lv.ownBlock.toList\/w.heap.size<=k from fun k hk=>by
   rcases b6 k hk with e | e
   ·rcases hlv with e2 | ⟨-,e2⟩
    ·rw [e2] at e;exact .inl e
    exact .inr (e2 k e)
   ·exact .inr (qh D2.size (qh HE5.out e))))
  have hfB:fb∉B:=fun hi=>by
   rcases b6 fb hi with e | e
   ·rcases hlv with e2 | ⟨-,e2⟩
    ·rw [e2] at e;exact nfv e
    have:=e2 fb e;have:=HFW.out;omega
   ·have:=Ob.lt f2;have:=HE5.out;omega
  have HF:=q9 (qc h10 (qc l10 (qc hB10 (qc A10 D10))))
  clear h2 f2 l2 n2 s2 A2 D2 F10 E hB6 h10 l10 hB10 A10 D10 b6 hbb
  obtain ⟨d0,d1,d2,d3,d4,d5,d6,d7,d8⟩:=zq f10
  have zf:=f10.frozen
  go_wp2_with fail
  go_end0
  have SF:Fr [fb] w10 ((w10.setCell ⟨fb,1,none⟩ (.int .i64 5)).setCell ⟨fb,6,none⟩ (.pointer (some ⟨bb,0,none⟩))):=(Fr.setCell _ (by simp)).setCell' _ (by simp)
  exact ⟨rfl,Ob.other (Ob.other HF.out.1 nbf _) nbf _,Ob.other (Ob.other HF.out.2.1 (Ne.symm nfl) _) (Ne.symm nfl) _,.inr ⟨HL0.out,bb,B,HBB.out.1,Ob.set (Ob.set f10 _) (i:=6) (.pointer (some ⟨bb,0,none⟩)),HF.out.2.2.1.kept SF (fun k hk hi=>by simp at hi;subst hi;exact hfB hk),HBB.out.2⟩,Rar.set (Rar.set HF.out.2.2.2.1 nfp nfq (i:=1) (.int .i64 5)) nfp nfq (i:=6) (.pointer (some ⟨bb,0,none⟩)),HF.out.2.2.2.2.trans (SF.mono)⟩
 ·have g0:decide (y1.line=0)=false:=by simpa using hl0
  rw [g0]
  have HL0:=q9 hl0
  clear hl0 g0
  go_wp2_with fail
  go_end0
  exact ⟨rfl,h1,l1,.inl ⟨HL0.out,f1,lv',n1,s1,hlv⟩,A1,D1⟩
theorem q0m (m:Md) (f:Fm) (hc:m.c.Ok) (x:Sp) (hxc:x.c.Ok) (pb:Nat) (ifb:List Nat) (b fb lb p q:Nat) (sp np bp pp:Option Nat) (dv fv:Value) (s:St) (w:World) (h:Z1 w b m dv fv) (hf:Zp w fb f lb sp np bp pp) (hL:vn w lb f.l) (hA:Rar w p q s) (nbf:¬ b=fb) (nbl:¬ b=lb) (nfl:¬ fb=lb) (nbp:¬ b=p) (nbq:¬ b=q) (nfp:¬ fb=p) (nfq:¬ fb=q) (nlp:¬ lb=p) (nlq:¬ lb=q) (hlen:ifb.length<=99999) (hpp:pp=some pb) (hP:Zk w pb x) (npp:pb≠p) (npq:pb≠q) (nbpb:¬ b=pb) (nfpb:¬ fb=pb) (nlpb:¬ lb=pb) (hD:Sq fI w dv m.draws) (nD:b∉dv.ownBlock.toList/\fb∉dv.ownBlock.toList/\pb∉dv.ownBlock.toList/\p∉dv.ownBlock.toList/\q∉dv.ownBlock.toList) (hF:Sq fP w fv (ifb++[fb])) (nF:b∉fv.ownBlock.toList/\fb∉fv.ownBlock.toList/\pb∉fv.ownBlock.toList/\p∉fv.ownBlock.toList/\q∉fv.ownBlock.toList) :
  Calls Tryz.prog 188 #[.pointer (some ⟨b,0,none⟩),.pointer (some ⟨p,0,none⟩),.pointer (some ⟨fb,0,none⟩)] w fun e w'=>e = .returned (.tuple #[])/\vn w' lb f.l/\qcp w w' m b dv fv ifb fb lb pb f sp np bp (x.step s).1/\Rar w' p q (x.step s).2/\Fr [b,fb,pb,p,q] w w':=by
 subst hpp
 obtain ⟨av,cv,rfl,hcv,hmv,-⟩:=id hF
 have hFl:(ifb++[fb]).length=ifb.length+1:=by simp
 rw [hFl] at h hF hcv nF ⊢
 clear hFl
 obtain ⟨gF,oF,rfl,-⟩:=Z3 hF (show (ifb++[fb])[ifb.length]? = some fb by simp)
 generalize hy:x.step s=y
 have HY:=q9 hy
 clear hy
 obtain ⟨y1,y2⟩:=y
 have HFD:=q9 (qc hF hD)
 obtain ⟨d0,d1,d2,d3,d4,d5,d6,d7,d8⟩:=zq hf
 unfold xw at d7
 simp only at d7
 clear hF hD
 go_enter Tryz.func188,Tryz.ntmps188
 go_wp2_with fail
 clear d0 d1 d2 d3 d4 d5 d6 d7 d8
 refine (q15 x hxc pb p q s w hP hA npp npq).mono ?_;rintro e w1 ⟨rfl,P1,A1,F1⟩
 have h1:Z1 w1 b m dv (.slice (some ⟨gF,oF,none⟩) (ifb.length+1) cv):=Ob.kept h F1 (by simp;exact ⟨nbpb,nbp,nbq⟩)
 have f1:Zp w1 fb f lb sp np bp (some pb):=Ob.kept hf F1 (by simp;exact ⟨nfpb,nfp,nfq⟩)
 have l1:vn w1 lb f.l:=Ob.kept hL F1 (by simp;exact ⟨nlpb,nlp,nlq⟩)
 have D1:Fr [b,fb,pb,p,q] w w1:=F1.mono
 have HF1:=q9 (qc (HFD.out.1.kept F1 (fun k hk hi=>by simp only [List.mem_cons,List.not_mem_nil,or_false] at hi;rcases hi with rfl | rfl | rfl;exact nF.2.2.1 hk;exact nF.2.2.2.1 hk;exact nF.2.2.2.2 hk)) (HFD.out.2.kept F1 (fun k hk hi=>by simp only [List.mem_cons,List.not_mem_nil,or_false] at hi;rcases hi with rfl | rfl | rfl;exact nD.2.2.1 hk;exact nD.2.2.2.1 hk;exact nD.2.2.2.2 hk)))
 rw [HY.out] at P1 A1 ⊢
 simp only at P1 A1 ⊢
 clear h hf hL hA F1 hP HFD
 obtain ⟨d0,d1,d2,d3,d4,d5,d6,d7,d8⟩:=zq f1
 unfold xw at d7
 simp only at d7
 have u12:=q7o P1
 by_cases hl0:y1.line=0
 ·have g0:decide (y1.line=0)=true:=by simpa using hl0
  rw [g0]
  have HL0:=q9 hl0
  clear hl0 g0
  by_cases hs0:y1.stuck=0
  ·have gs:(y1.stuck != 0)=false:=by simpa using hs0
   have HS0:=q9 hs0
   have HP1:=q9 P1
   clear hs0 P1
   go_wp2_with fail
   clear d0 d1 d2 d3 d4 d5 d6 d7 d8 gs u12
   refine qo (by kernel_rfl) ?_
   refine z6 [] w1 #[true,true,true,true,true,true,true,true,true,true,true,true,false,false,false] 12 3 rfl ?_
   refine lpq [true,true,true,true,true,true,true,true,true,true,true,true,false,false,false] 0 ((Fr.refl _ _).drew) ?_
   apply qg
   refine ⟨fun wf Ff=>?_,?_⟩
   ·obtain ⟨-,-,-,-,-,c5,-⟩:=zl (Ob.up h1 Ff)
    have k5:=qb c5
    clear c5
    simp only [sel]
    repeat (go_big_quiet_step (fail))
    exact wpQuiet_nil rfl
   refine qx (k:=12) rfl (by kernel_rfl) (fun w2 F2=>?_)
   have E:=((Fr.refl [] w1).drew.trans F2)
   have h2:=Ob.up h1 E
   have l2:=Ob.up l1 E
   have A2:=A1.kept E
   have D2:=D1.then E
   have HFE:=q9 (HF1.out.1.up E)
   clear h1 f1 l1 A1 D1 E F2
   obtain ⟨c0,c1,c2,c3,c4,c5,c6⟩:=zl h2
   have z:=h2.frozen
   go_wp2_with fail
   go_end0
   have SB:Fr [b] w2 (w2.setCell ⟨b,5,none⟩ (.slice (some ⟨gF,oF,none⟩) ifb.length cv)):=Fr.setCell _ (by simp)
   have FT:=Sq.take V3 HFE.out ifb.length (by simp)
   rw [List.take_left] at FT
   exact ⟨rfl,Ob.other l2 (Ne.symm nbl) _,.inr (.inl ⟨HL0.out,HS0.out,_,Ob.set h2 _,FT.kept SB (fun k hk hi=>by simp at hi;subst hi;exact nF.1 (by simpa [Value.ownBlock] using hk)),fun k hk=>by simpa [Value.ownBlock] using hk⟩),Rar.set A2 nbp nbq _,D2.trans (Fr.setCell _ (by simp))⟩
  have gs:(y1.stuck != 0)=true:=by simpa using hs0
  have HS0:=q9 hs0
  have HP1:=q9 P1
  clear hs0 P1
  go_wp2_with fail
  clear d0 d1 d2 d3 d4 d5 d6 d7 d8 gs u12
  refine qo (by kernel_rfl) ?_
  refine z6 [] w1 #[true,true,true,true,true,true,true,true,true,false] 9 1 rfl ?_
  refine yx [true,true,true,true,true,true,true,true,true,false] 0 (n:=50) (listed':=#[true,true,true,true,true,true,true,true,true,false]) rfl (by kernel_rfl) (by kernel_rfl) (by kernel_rfl) (by kernel_rfl) rfl (by kernel_rfl) (fun _ _ d _ _ h=>by cases d <;> exact h) ((Fr.refl _ _).drew) ?_
  apply qg
  refine ⟨fun wf Ff=>?_,?_⟩
  ·obtain ⟨c0,c1,c2,c3,-,-,-⟩:=zl (Ob.up h1 Ff)
   obtain ⟨-,-,-,-,-,-,-,-,d8⟩:=zq (Ob.up f1 Ff)
   have k0:=qb c0
   have k1:=qb c1
   have k2:=qb c2
   have k3:=qb c3
   have k8:=qb d8
   clear c0 c1 c2 c3 d8
   simp only [sel]
   repeat (go_big_quiet_step (fail))
   exact wpQuiet_nil rfl
  refine qx (k:=9) rfl (by kernel_rfl) (fun w2 F2=>?_)
  have E:=((Fr.refl [] w1).drew.trans F2)
  have h2:=Ob.up h1 E
  have f2:=Ob.up f1 E
  have l2:=Ob.up l1 E
  have A2:=A1.kept E
  have D2:=D1.then E
  have HFE:=q9 (qc (HF1.out.1.up E) (HF1.out.2.up E))
  clear h1 f1 l1 A1 D1 E F2
  go_wp2_with fail
  refine (X9 f m.c hc f.repl fb lb sp np bp (some pb) w2 f2 l2).mono ?_;rintro e w3 ⟨rfl,⟨pb2,hpb2,f3,p3⟩,F3⟩
  have h3:=Ob.kept h2 F3 (by simp;exact nbf)
  have l3:=Ob.kept l2 F3 (by simp;exact Ne.symm nfl)
  have A3:=A2.kept F3 (by simp;exact Ne.symm nfp) (by simp;exact Ne.symm nfq)
  have D3:=D2.trans (F3.mono (T:=[b,fb,pb,p,q]) (by simp))
  have hF3:=HFE.out.1.kept F3 (fun k hk hi=>by simp at hi;subst hi;exact nF.2.1 hk)
  have hD3:=HFE.out.2.kept F3 (fun k hk hi=>by simp at hi;subst hi;exact nD.2.1 hk)
  have HPB:=q9 (qc (qh D2.size hpb2) (Ob.lt p3))
  have hb2:=Ob.lt h2
  have hf2:=Ob.lt f2
  have hl2:=Ob.lt l2
  clear h2 f2 l2 A2 D2 F3
  go_wp2_with fail
  refine (Kw m hc y1.stuck b dv _ (ifb++[fb]) w3 h3 hD3 hF3 (by simp;omega)).mono ?_;rintro e w4 ⟨rfl,⟨fv',fb2,lb2,h4,F4v,g4,q4,s1,s2,s3,s4⟩,F4⟩
  have f4:=Ob.kept f3 F4 (by simp;exact Ne.symm nbf)
  have p4:=Ob.kept p3 F4 (by simp;omega)
  have l4:=Ob.kept l3 F4 (by simp;exact Ne.symm nbl)
  have A4:=A3.kept F4 (by simp;exact Ne.symm nbp) (by simp;exact Ne.symm nbq)
  have D4:=D3.trans (F4.mono (T:=[b,fb,pb,p,q]) (by simp))
  have h8:=HPB.out
  have h9:=D3.size
  go_wp2_with fail
  refine bodyPost_ret (v:=.tuple #[]) (by simp [results,Tryz.results188,go_sem]) rfl ?_
  exact ⟨rfl,l4,.inr (.inr ⟨HL0.out,HS0.out,pb2,fv',fb2,lb2,h4,F4v,f4,p4,g4,q4,h8.1,by omega,by omega,by omega,by omega,s3,fun k hk=>by have:=s4 k hk;exact ⟨by omega,this.2.1,this.2.2.1,this.2.2.2⟩⟩),A4,D4⟩
 ·have g0:decide (y1.line=0)=false:=by simpa using hl0
  rw [g0]
  have HL0:=q9 hl0
  clear hl0 g0 u12
  go_wp2_with fail
  refine bodyPost_ret (v:=.tuple #[]) (by simp [results,Tryz.results188,go_sem]) rfl ?_
  exact ⟨rfl,l1,.inl ⟨HL0.out,h1,f1,P1⟩,A1,D1⟩
theorem q7q (m:Md) (f:Fm) (hpt:f.part=4) (hc:m.c.Ok) (b fb lb p q:Nat) (sp np bp pp:Option Nat) (dv fv:Value) (ifb:List Nat) (s:St) (w:World) (h:Z1 w b m dv fv) (hF:Sq fP w fv (ifb++[fb])) (hlen:ifb.length<=100000) (hf:Zp w fb f lb sp np bp pp) (hL:vn w lb f.l) (hA:Rar w p q s) (nbf:¬ b=fb) (nbl:¬ b=lb) (nfl:¬ fb=lb) (nbp:¬ b=p) (nbq:¬ b=q) (nfp:¬ fb=p) (nfq:¬ fb=q) (nlp:¬ lb=p) (nlq:¬ lb=q) (hnp:np=none) (nF:b∉fv.ownBlock.toList/\fb∉fv.ownBlock.toList/\lb∉fv.ownBlock.toList/\p∉fv.ownBlock.toList/\q∉fv.ownBlock.toList) :
  Calls Tryz.prog 162 #[.pointer (some ⟨b,0,none⟩),.pointer (some ⟨p,0,none⟩)] w fun e w'=>e = .returned (.bool false)/\Z1 w' b m dv fv/\vn w' lb f.l/\(∃ nb,w.heap.size<=nb/\Zp w' fb f lb sp (some nb) bp pp/\V4 w' nb (Nd.new m.c))/\Rar w' p q (s.load 1)/\Fr [fb,p,q] w w':=by
 obtain ⟨av,cv,rfl,hcv,hmv,-⟩:=id hF
 have hFl:(ifb++[fb]).length=ifb.length+1:=by simp
 rw [hFl] at h hF hcv nF ⊢
 clear hFl
 obtain ⟨gF,oF,rfl,cF⟩:=Z3 hF (show (ifb++[fb])[ifb.length]? = some fb by simp)
 obtain ⟨c0,c1,c2,c3,c4,c5,c6⟩:=zl h
 have hge:¬ ((ifb.length:Int)+1=0):=by omega
 go_enter Tryz.func162,Tryz.ntmps162
 go_wp2_with fail
 have k5:=qb c5
 have kF:=qb cF
 clear c0 c1 c2 c3 c4 c5 c6 cF
 refine wiq ?_
 repeat (go_big_quiet_step (fail))
 refine wpQuiet_nil ?_
 intro w1 F1
 have h1:Z1 w1 b m dv (.slice (some ⟨gF,oF,none⟩) (ifb.length+1) cv):=Ob.up h F1
 have f1:Zp w1 fb f lb sp np bp pp:=Ob.up hf F1
 have l1:vn w1 lb f.l:=Ob.up hL F1
 have A1:=hA.kept F1
 clear k5 kF h hf hL hA hF
 obtain ⟨c0,c1,c2,c3,c4,c5,c6⟩:=zl h1
 obtain ⟨d0,d1,d2,d3,d4,d5,d6,d7,d8⟩:=zq f1
 rw [hpt] at d1
 clear hpt
 have z:=h1.frozen
 have zf:=f1.frozen
 go_wp2_with fail
 clear c0 c1 c2 c3 c4 c5 c6 d0 d1 d2 d3 d4 d5 d6 d7 d8 z zf
 refine (q3d m f hc b fb lb p q sp np bp pp dv _ s w1 h1 f1 l1 A1 nbf nbl nfl nbp nbq nfp nfq nlp nlq hnp).mono ?_;rintro e w2 ⟨rfl,h2,l2,N2,A2,F2⟩
 have D2:Fr [fb,p,q] w w2:=(F1.mono).trans F2
 have HN:=q9 (qc N2 F1.size)
 clear N2 h1 f1 l1 A1 F1 F2
 obtain ⟨c0,c1,c2,c3,c4,c5,c6⟩:=zl h2
 go_wp2_with fail
 go_ret
 obtain ⟨nb,n1,n2,n3⟩:=HN.out.1
 exact ⟨rfl,h2,l2,⟨nb,qh HN.out.2 n1,n2,n3⟩,A2,D2⟩
theorem q8l (m:Md) (f:Fm) (hpt:f.part=4) (hc:m.c.Ok) (x:Nd) (hxc:x.c.Ok) (hxt:0<=x.t/\x.t<=8) (hxl:x.l.length<=1000) (nb:Nat) (b fb lb p q:Nat) (sp np bp pp:Option Nat) (dv fv:Value) (ifb:List Nat) (s:St) (w:World) (h:Z1 w b m dv fv) (hF:Sq fP w fv (ifb++[fb])) (hlen:ifb.length<=100000) (hf:Zp w fb f lb sp np bp pp) (hL:vn w lb f.l) (hA:Rar w p q s) (nbf:¬ b=fb) (nbl:¬ b=lb) (nfl:¬ fb=lb) (nbp:¬ b=p) (nbq:¬ b=q) (nfp:¬ fb=p) (nfq:¬ fb=q) (nlp:¬ lb=p) (nlq:¬ lb=q) (hnp:np=some nb) (hN:V4 w nb x) (hS:Sq fI w x.lv x.l) (nnl:nb∉x.lv.ownBlock.toList) (npl:p∉x.lv.ownBlock.toList) (nql:q∉x.lv.ownBlock.toList) (nnp:nb≠p) (nnq:nb≠q) (nbn:¬ b=nb) (nfn:¬ fb=nb) (nln:¬ lb=nb) (nfv:fb∉x.lv.ownBlock.toList) (hlt:∀ k,k∈x.lv.ownBlock.toList->k<w.heap.size) (nF:b∉fv.ownBlock.toList/\fb∉fv.ownBlock.toList/\lb∉fv.ownBlock.toList/\p∉fv.ownBlock.toList/\q∉fv.ownBlock.toList) :
  Calls Tryz.prog 162 #[.pointer (some ⟨b,0,none⟩),.pointer (some ⟨p,0,none⟩)] w fun e w'=>e = .returned (.bool false)/\Z1 w' b m dv fv/\vn w' lb f.l/\qd0 w w' m fb lb nb f sp bp pp x.lv (x.step s).1/\Rar w' p q (x.step s).2/\Fr [fb,nb,p,q] w w':=by
 generalize hy:x.step s=y
 have HY:=q9 hy
 clear hy
 obtain ⟨av,cv,rfl,hcv,hmv,-⟩:=id hF
 have hFl:(ifb++[fb]).length=ifb.length+1:=by simp
 rw [hFl] at h hF hcv nF ⊢
 clear hFl
 obtain ⟨gF,oF,rfl,cF⟩:=Z3 hF (show (ifb++[fb])[ifb.length]? = some fb by simp)
 obtain ⟨c0,c1,c2,c3,c4,c5,c6⟩:=zl h
 have hge:¬ ((ifb.length:Int)+1=0):=by omega
 go_enter Tryz.func162,Tryz.ntmps162
 go_wp2_with fail
 have k5:=qb c5
 have kF:=qb cF
 clear c0 c1 c2 c3 c4 c5 c6 cF
 refine wiq ?_
 repeat (go_big_quiet_step (fail))
 refine wpQuiet_nil ?_
 intro w1 F1
 have h1:Z1 w1 b m dv (.slice (some ⟨gF,oF,none⟩) (ifb.length+1) cv):=Ob.up h F1
 have f1:Zp w1 fb f lb sp np bp pp:=Ob.up hf F1
 have l1:vn w1 lb f.l:=Ob.up hL F1
 have A1:=hA.kept F1
 have HN1:=q9 (qc (show V4 w1 nb x from Ob.up hN F1) (hS.up F1))
 have hlt1:∀ k,k∈x.lv.ownBlock.toList->k<w1.heap.size:=fun k hk=>qj (hlt k hk) F1.size
 clear hN hS hlt
 clear k5 kF h hf hL hA hF
 obtain ⟨c0,c1,c2,c3,c4,c5,c6⟩:=zl h1
 obtain ⟨d0,d1,d2,d3,d4,d5,d6,d7,d8⟩:=zq f1
 rw [hpt] at d1
 clear hpt
 have z:=h1.frozen
 have zf:=f1.frozen
 go_wp2_with fail
 clear c0 c1 c2 c3 c4 c5 c6 d0 d1 d2 d3 d4 d5 d6 d7 d8 z zf
 refine (q49 m f hc x hxc hxt hxl nb b fb lb p q sp np bp pp dv _ s w1 h1 f1 l1 A1 nbf nbl nfl nbp nbq nfp nfq nlp nlq hnp HN1.out.1 HN1.out.2 nnl npl nql nnp nnq nbn nfn nln nfv hlt1).mono ?_;rintro e w2 ⟨rfl,h2,l2,N2,A2,F2⟩
 have D2:Fr [fb,nb,p,q] w w2:=(F1.mono).trans F2
 rw [HY.out] at N2 A2
 have HN:=q9 (N2.mono F1.size)
 clear N2 h1 f1 l1 A1 F1 F2 hlt1
 obtain ⟨c0,c1,c2,c3,c4,c5,c6⟩:=zl h2
 go_wp2_with fail
 go_ret
 exact ⟨rfl,h2,l2,HN.out,A2,D2⟩
theorem qb1 (m:Md) (f:Fm) (hpt:f.part=6) (hc:m.c.Ok) (x:Sp) (hxc:x.c.Ok) (pb:Nat) (b fb lb p q:Nat) (sp np bp pp:Option Nat) (dv fv:Value) (ifb:List Nat) (s:St) (w:World) (h:Z1 w b m dv fv) (hF:Sq fP w fv (ifb++[fb])) (hlen:ifb.length<=100000) (hf:Zp w fb f lb sp np bp pp) (hL:vn w lb f.l) (hA:Rar w p q s) (nbf:¬ b=fb) (nbl:¬ b=lb) (nfl:¬ fb=lb) (nbp:¬ b=p) (nbq:¬ b=q) (nfp:¬ fb=p) (nfq:¬ fb=q) (nlp:¬ lb=p) (nlq:¬ lb=q) (hlen6:ifb.length<=99999) (hpp:pp=some pb) (hP:Zk w pb x) (npp:pb≠p) (npq:pb≠q) (nbpb:¬ b=pb) (nfpb:¬ fb=pb) (nlpb:¬ lb=pb) (hD:Sq fI w dv m.draws) (nD:b∉dv.ownBlock.toList/\fb∉dv.ownBlock.toList/\pb∉dv.ownBlock.toList/\p∉dv.ownBlock.toList/\q∉dv.ownBlock.toList) (npF:pb∉fv.ownBlock.toList) (nF:b∉fv.ownBlock.toList/\fb∉fv.ownBlock.toList/\lb∉fv.ownBlock.toList/\p∉fv.ownBlock.toList/\q∉fv.ownBlock.toList) :
  Calls Tryz.prog 162 #[.pointer (some ⟨b,0,none⟩),.pointer (some ⟨p,0,none⟩)] w fun e w'=>e = .returned (.bool (Yo (x.step s).1 ifb))/\vn w' lb f.l/\qcp w w' m b dv fv ifb fb lb pb f sp np bp (x.step s).1/\Rar w' p q (x.step s).2/\Fr [b,fb,pb,p,q] w w':=by
 generalize hy:x.step s=y
 have HY:=q9 hy
 clear hy
 have HFD:=q9 (qc hF (qc hD nF))
 obtain ⟨av,cv,rfl,hcv,hmv,-⟩:=id hF
 have hFl:(ifb++[fb]).length=ifb.length+1:=by simp
 rw [hFl] at h hF hcv nF ⊢
 clear hFl
 obtain ⟨gF,oF,rfl,cF⟩:=Z3 hF (show (ifb++[fb])[ifb.length]? = some fb by simp)
 obtain ⟨c0,c1,c2,c3,c4,c5,c6⟩:=zl h
 have hge:¬ ((ifb.length:Int)+1=0):=by omega
 go_enter Tryz.func162,Tryz.ntmps162
 go_wp2_with fail
 have k5:=qb c5
 have kF:=qb cF
 clear c0 c1 c2 c3 c4 c5 c6 cF
 refine wiq ?_
 repeat (go_big_quiet_step (fail))
 refine wpQuiet_nil ?_
 intro w1 F1
 have h1:Z1 w1 b m dv (.slice (some ⟨gF,oF,none⟩) (ifb.length+1) cv):=Ob.up h F1
 have f1:Zp w1 fb f lb sp np bp pp:=Ob.up hf F1
 have l1:vn w1 lb f.l:=Ob.up hL F1
 have A1:=hA.kept F1
 have HP1:=q9 (show Zk w1 pb x from Ob.up hP F1)
 have HF1:=q9 (qc (HFD.out.1.up F1) (HFD.out.2.1.up F1))
 clear hP hD
 clear k5 kF h hf hL hA hF
 obtain ⟨c0,c1,c2,c3,c4,c5,c6⟩:=zl h1
 obtain ⟨d0,d1,d2,d3,d4,d5,d6,d7,d8⟩:=zq f1
 rw [hpt] at d1
 clear hpt
 have z:=h1.frozen
 have zf:=f1.frozen
 go_wp2_with fail
 clear c0 c1 c2 c3 c4 c5 c6 d0 d1 d2 d3 d4 d5 d6 d7 d8 z zf
 have hFl:(ifb++[fb]).length=ifb.length+1:=by simp
 have HFl:=q9 hFl
 rw [hFl] at HF1 HFD
 clear hFl
 refine (q0m m f hc x hxc pb ifb b fb lb p q sp np bp pp dv _ s w1 h1 f1 l1 A1 nbf nbl nfl nbp nbq nfp nfq nlp nlq hlen6 hpp HP1.out npp npq nbpb nfpb nlpb HF1.out.2 nD HF1.out.1 ⟨nF.1,nF.2.1,npF,nF.2.2.2.1,nF.2.2.2.2⟩).mono ?_;rintro e w2 ⟨rfl,l2,N2,A2,F2⟩
 have D2:Fr [b,fb,pb,p,q] w w2:=(F1.mono).trans F2
 rw [HY.out] at N2 A2
 obtain ⟨y1,y2⟩:=y
 simp only at N2 A2 ⊢
 have HN:=q9 (N2.mono F1.size)
 clear h1 f1 l1 A1 F1 F2 HF1 HP1
 rcases N2 with ⟨e1,h2,-⟩ | ⟨e1,e2,fv',h2,F2v,-⟩ | ⟨e1,e2,pb2,fv',fb2,lb2,h2,F2v,-⟩
 ·have HB:=q9 (show Yo y1 ifb=false by unfold Yo;simp [e1])
  clear e1
  obtain ⟨c0,c1,c2,c3,c4,c5,c6⟩:=zl h2
  go_wp2_with fail
  go_ret
  exact ⟨by rw [HB.out];rfl,l2,HN.out,A2,D2⟩
 ·obtain ⟨a2,k2,rfl,-,-,-⟩:=id F2v
  have HB:=q9 (show Yo y1 ifb=((ifb.length:Int) == 0) by
   unfold Yo
   cases ifb with
   | nil=>simp [e1,e2]
   | cons a r=>simp;omega)
  clear e1 e2 F2v
  obtain ⟨c0,c1,c2,c3,c4,c5,c6⟩:=zl h2
  go_wp2_with fail
  go_ret
  exact ⟨by rw [HB.out];rfl,l2,HN.out,A2,D2⟩
 ·have HB:=q9 (show Yo y1 ifb=((ifb.length:Int)+2 == 0) by unfold Yo;simp [e2];omega)
  obtain ⟨a2,k2,rfl,-,-,-⟩:=id F2v
  have hl2:((ifb++[fb])++[fb2]).length=ifb.length+2:=by simp
  rw [hl2] at h2
  clear e1 e2 F2v hl2
  obtain ⟨c0,c1,c2,c3,c4,c5,c6⟩:=zl h2
  go_wp2_with fail
  go_ret
  exact ⟨by rw [HB.out];rfl,l2,HN.out,A2,D2⟩
def qdc (w:World) (B:List Nat) (b:Nat) (x:Nd):Prop:=∃ lv,V4 w b { x with lv:=lv } /\ Sq fI w lv x.l/\b∉lv.ownBlock.toList/\B=b :: lv.ownBlock.toList/\∀ k,k∈B->k<w.heap.size
theorem qdc.kept {S:List Nat} {w w':World} {B:List Nat} {b:Nat} {x:Nd} (h:qdc w B b x) (f:Fr S w w') (hS:∀ k,k∈B->k∉S):qdc w' B b x:=by
 obtain ⟨lv,h1,h2,h3,rfl,h5⟩:=h
 exact ⟨lv,Ob.kept h1 f (hS b (by simp)),h2.kept f (fun g hg=>hS g (List.mem_cons_of_mem _ hg)),h3,rfl,fun k hk=>qj (h5 k hk) f.size⟩
theorem q29 (x:Nd) (lv:Value):({ x with lv:=lv }:Nd).on = { x.on with lv:=lv }:=by unfold Nd.on;simp only;split <;> rfl
theorem q2g (x:Nd) (lv:Value) (s:St):(({ x with lv:=lv }:Nd).step s).1 = { (x.step s).1 with lv:=lv } /\ (({ x with lv:=lv }:Nd).step s).2=(x.step s).2:=by
 have e1:∀ v,({ x with lv:=lv }:Nd).next v = { x.next v with lv:=lv }:=by
  intro v
  unfold Nd.next
  simp only
  (repeat' split) <;> first | rfl | (unfold Nd.met;rw [<- q29]) | (rw [<- q29])
 unfold Nd.step
 have e2:({ x with lv:=lv }:Nd).live=x.live:=rfl
 have e3:({ x with lv:=lv }:Nd).told s=x.told s:=rfl
 have e4:({ x with lv:=lv }:Nd).act s=x.act s:=rfl
 rw [e2,e3,e4]
 split
 ·exact ⟨e1 _,rfl⟩
 ·exact ⟨rfl,rfl⟩
structure Ry (x:Nd):Prop where
 c:x.c.Ok
 t0:0<=x.t
 t8:x.t<=8
 l:(x.l.length:Int)<=x.t
 a:x.line≠0->x.t<x.c.t
theorem qb7 (l:List Int) (v:Int):(ins l v).length<=l.length+1:=by
 induction l with
 | nil=>simp [ins]
 | cons x r ih=>unfold ins;split <;> (try split) <;> simp <;> omega
theorem Ry.new {c:Cf} (hc:c.Ok):Ry (Nd.new c):=⟨hc,by simp [Nd.new],by simp [Nd.new],by simp [Nd.new],fun _=>by have:=hc.t1;simp [Nd.new];omega⟩
theorem Ry.on {x:Nd} (hc:x.c.Ok) (h0:0<=x.t) (h1:x.t<x.c.t) (hl:(x.l.length:Int)<=x.t+1):Ry x.on:=by
 have:=hc.t8
 unfold Nd.on
 split
 ·exact ⟨hc,by simp only;omega,by simp only;omega,by simp only;omega,fun h=>absurd rfl h⟩
 ·exact ⟨hc,by simp only;omega,by simp only;omega,by simp only;omega,fun _=>by simp only;omega⟩
theorem Ry.step {x:Nd} (h:Ry x) (s:St):Ry (x.step s).1:=by
 obtain ⟨hc,h0,h8,hl,ha⟩:=h
 unfold Nd.step
 split
 ·rename_i hv
  unfold Nd.live at hv
  simp only [Bool.and_eq_true,decide_eq_true_eq] at hv
  have ht:=ha (by omega)
  have h2:=qb7 x.l
  unfold Nd.next
  (repeat' split)
  ·exact ⟨hc,h0,h8,hl,fun _=>ht⟩
  ·exact Ry.on hc h0 ht (by unfold Nd.met;simp only;have:=h2 (ju (x.told s) - 2);omega)
  ·exact Ry.on hc h0 ht (by simp only;omega)
  ·exact ⟨hc,h0,h8,hl,fun _=>ht⟩
  ·exact ⟨hc,h0,h8,hl,fun _=>ht⟩
  ·exact Ry.on hc h0 ht (by unfold Nd.met;simp only;have:=h2 (ju (x.told s) - 2);omega)
  ·exact Ry.on hc h0 ht (by omega)
 ·exact ⟨hc,h0,h8,hl,ha⟩
theorem q4f (x:Ld):x.eight.c=x.c:=by unfold Ld.eight Ld.toAlone;split <;> rfl
theorem q5l (x:Ld) (s:St):(x.step s).1.c=x.c:=by
 unfold Ld.step
 split
 ·unfold Ld.next
  simp only [apply_ite Ld.c,q4f,Ld.toAlone,ite_self]
 ·rfl
theorem q5y (x:Sl) (s:St):(x.step s).1.c=x.c:=by
 unfold Sl.step
 split
 ·unfold Sl.next
  (repeat' split) <;> rfl
 ·rfl
theorem q6c (x:Sp) (s:St):(x.step s).1.c=x.c:=by
 unfold Sp.step
 split
 ·unfold Sp.next Sp.head
  (repeat' split) <;> rfl
 ·rfl
def q3w (w:World) (B:List Nat) (f:Fm) (sp np bp pp:Option Nat):Prop :=
 (f.part=1/\np=none/\f.n=none/\B=[]) \/
 (f.part=2/\np=none/\f.n=none/\∃ x sb,f.s=some x/\sp=some sb/\Vl w sb x/\B=[sb]) \/
 (f.part=3/\np=none/\f.n=none/\B=[]) \/
 (f.part=4/\np=none/\f.n=none/\B=[]) \/
 (f.part=4/\∃ x nb,f.n=some x/\np=some nb/\qdc w B nb x) \/
 (f.part=5/\∃ x bb,f.b=some x/\bp=some bb/\Sk w B bb x) \/
 (f.part=6/\∃ x pb,f.p=some x/\pp=some pb/\Zk w pb x/\B=[pb])
theorem q3w.lt {w:World} {B:List Nat} {f:Fm} {sp np bp pp:Option Nat} (h:q3w w B f sp np bp pp):∀ k,k∈B->k<w.heap.size:=by
 rcases h with ⟨-,-,-,rfl⟩ | ⟨-,-,-,x,sb,-,-,h,rfl⟩ | ⟨-,-,-,rfl⟩ | ⟨-,-,-,rfl⟩ | ⟨-,x,nb,-,-,h⟩ | ⟨-,x,bb,-,-,h⟩ | ⟨-,x,pb,-,-,h,rfl⟩
 ·simp
 ·intro k hk;simp at hk;subst hk;exact Ob.lt h
 ·simp
 ·simp
 ·obtain ⟨lv,-,-,-,-,h5⟩:=h;exact h5
 ·exact h.lt
 ·intro k hk;simp at hk;subst hk;exact Ob.lt h
theorem q3w.kept {S:List Nat} {w w':World} {B:List Nat} {f:Fm} {sp np bp pp:Option Nat} (h:q3w w B f sp np bp pp) (F:Fr S w w') (hS:∀ k,k∈B->k∉S):q3w w' B f sp np bp pp:=by
 rcases h with h | ⟨h1,h2,h3,x,sb,h4,h5,h,rfl⟩ | h | h | ⟨h1,x,nb,h2,h3,h⟩ | ⟨h1,x,bb,h2,h3,h⟩ | ⟨h1,x,pb,h2,h3,h,rfl⟩
 ·exact .inl h
 ·exact .inr (.inl ⟨h1,h2,h3,x,sb,h4,h5,Ob.kept h F (hS sb (by simp)),rfl⟩)
 ·exact .inr (.inr (.inl h))
 ·exact .inr (.inr (.inr (.inl h)))
 ·exact .inr (.inr (.inr (.inr (.inl ⟨h1,x,nb,h2,h3,h.kept F hS⟩))))
 ·exact .inr (.inr (.inr (.inr (.inr (.inl ⟨h1,x,bb,h2,h3,h.kept F hS⟩)))))
 ·exact .inr (.inr (.inr (.inr (.inr (.inr ⟨h1,x,pb,h2,h3,Ob.kept h F (hS pb (by simp)),rfl⟩)))))
def q9s (w:World) (B:List Nat) (fb:Nat) (f:Fm):Prop:=∃ lb sp np bp pp Bx,Zp w fb f lb sp np bp pp/\vn w lb f.l/\q3w w Bx f sp np bp pp/\fb≠lb/\fb∉Bx/\lb∉Bx/\B=fb :: lb :: Bx
theorem q9s.lt {w:World} {B:List Nat} {fb:Nat} {f:Fm} (h:q9s w B fb f):∀ k,k∈B->k<w.heap.size:=by
 obtain ⟨lb,sp,np,bp,pp,Bx,h1,h2,h3,-,-,-,rfl⟩:=h
 intro k hk
 simp only [List.mem_cons] at hk
 rcases hk with rfl | rfl | hk
 ·exact Ob.lt h1
 ·exact Ob.lt h2
 ·exact h3.lt k hk
theorem q9s.kept {S:List Nat} {w w':World} {B:List Nat} {fb:Nat} {f:Fm} (h:q9s w B fb f) (F:Fr S w w') (hS:∀ k,k∈B->k∉S):q9s w' B fb f:=by
 obtain ⟨lb,sp,np,bp,pp,Bx,h1,h2,h3,h4,h5,h6,rfl⟩:=h
 exact ⟨lb,sp,np,bp,pp,Bx,Ob.kept h1 F (hS fb (by simp)),Ob.kept h2 F (hS lb (by simp)),h3.kept F (fun k hk=>hS k (by simp [hk])),h4,h5,h6,rfl⟩
structure qdi (w:World) (R:List Nat) (b:Nat) (m:Md) (dv fv:Value) (fr:List (Nat×List Nat×Fm)):Prop where
 o:Z1 w b m dv fv
 d:Sq fI w dv m.draws
 dr:∀ k,k∈dv.ownBlock.toList->k∈R
 fq:Sq fP w fv (fr.map (·.1))
 mf:m.f=fr.map (·.2.2)
 fm:∀ t,t∈fr->q9s w t.2.1 t.1 t.2.2
 nf:b∉fv.ownBlock.toList
 nb:∀ t,t∈fr->b∉t.2.1/\∀ k,k∈t.2.1->k∉fv.ownBlock.toList
 pw:fr.Pairwise (fun s t=>∀ k,k∈s.2.1->k∉t.2.1)
 lt:∀ k,k∈fv.ownBlock.toList->k<w.heap.size
 rr:∀ k,k∈R->k<w.heap.size/\k≠b/\k∉fv.ownBlock.toList/\∀ t,t∈fr->k∉t.2.1
def mdB (b:Nat) (fv:Value) (fr:List (Nat×List Nat×Fm)):List Nat:=b :: (fv.ownBlock.toList++fr.flatMap (·.2.1))
def Tt (w:World) (R B:List Nat) (b:Nat) (m:Md):Prop:=∃ dv fv fr,qdi w R b m dv fv fr/\B=mdB b fv fr
theorem vz {b k:Nat} {fv:Value} {fr:List (Nat×List Nat×Fm)}:k∈mdB b fv fr↔k=b\/k∈fv.ownBlock.toList\/∃ t,t∈fr/\k∈t.2.1:=by
 unfold mdB;rw [List.mem_cons,List.mem_append,List.mem_flatMap]
theorem Tt.lt {w:World} {R B:List Nat} {b:Nat} {m:Md} (h:Tt w R B b m):∀ k,k∈B->k<w.heap.size:=by
 obtain ⟨dv,fv,fr,h,rfl⟩:=h
 intro k hk
 rcases vz.1 hk with rfl | hk | ⟨t,ht,hk⟩
 ·exact Ob.lt h.o
 ·exact h.lt k hk
 ·exact (h.fm t ht).lt k hk
theorem Tt.kept {S:List Nat} {w w':World} {R B:List Nat} {b:Nat} {m:Md} (h:Tt w R B b m) (F:Fr S w w') (hS:∀ k,k∈B->k∉S) (hR:∀ k,k∈R->k∉S):Tt w' R B b m:=by
 obtain ⟨dv,fv,fr,h,rfl⟩:=h
 refine ⟨dv,fv,fr,⟨Ob.kept h.o F (hS b (vz.2 (.inl rfl))),h.d.kept F (fun k hk=>hR k (h.dr k hk)),h.dr,h.fq.kept F (fun k hk=>hS k (vz.2 (.inr (.inl hk)))),h.mf,fun t ht=>(h.fm t ht).kept F (fun k hk=>hS k (vz.2 (.inr (.inr ⟨t,ht,hk⟩)))),h.nf,h.nb,h.pw,fun k hk=>qj (h.lt k hk) F.size,fun k hk=>⟨qj (h.rr k hk).1 F.size,(h.rr k hk).2⟩⟩,rfl⟩
theorem qbf {w w':World} {R:List Nat} {b p q fb:Nat} {Bf:List Nat} {f:Fm} {m m':Md} {dv fv dv' fv':Value} {ini tl:List (Nat×List Nat×Fm)} (h:qdi w R b m dv fv (ini++[(fb,Bf,f)]))
  (hp:p∉mdB b fv (ini++[(fb,Bf,f)])) (hq:q∉mdB b fv (ini++[(fb,Bf,f)])) (hpR:p∉R) (hqR:q∉R) {S:List Nat} (F:Fr S w w') (hS:∀ k,k∈S->k=p\/k=q\/k=b\/k∈Bf)
  (ho:Z1 w' b m' dv' fv') (hd:Sq fI w' dv' m'.draws) (hdv:∀ k,k∈dv'.ownBlock.toList->k∈dv.ownBlock.toList)
  (hfq:Sq fP w' fv' ((ini++tl).map (·.1))) (hmf:m'.f=(ini++tl).map (·.2.2)) (hfm:∀ t,t∈tl->q9s w' t.2.1 t.1 t.2.2) (hnew:∀ t,t∈tl->∀ k,k∈t.2.1->k∈Bf\/w.heap.size<=k)
  (hpw:tl.Pairwise (fun s t=>∀ k,k∈s.2.1->k∉t.2.1)) (hfv:∀ k,k∈fv'.ownBlock.toList->k∈fv.ownBlock.toList\/(w.heap.size<=k/\k<w'.heap.size/\∀ t,t∈tl->k∉t.2.1)) :
  ∃ B',Tt w' R B' b m'/\(∀ k,k∈B'->k∈mdB b fv (ini++[(fb,Bf,f)])\/w.heap.size<=k):=by
 have hb:=Ob.lt h.o
 have hl:(fb,Bf,f)∈ini++[(fb,Bf,f)]:=by simp
 have hi:∀ t,t∈ini->t∈ini++[(fb,Bf,f)]:=fun t ht=>by simp [ht]
 have pwi:=(List.pairwise_append.1 h.pw).1
 have pwc:∀ t,t∈ini->∀ k,k∈t.2.1->k∉Bf:=fun t ht=>(List.pairwise_append.1 h.pw).2.2 t ht (fb,Bf,f) (by simp)
 have iS:∀ t,t∈ini->∀ k,k∈t.2.1->k∉S:=fun t ht k hk hs=>by
  rcases hS k hs with rfl | rfl | rfl | e
  ·exact hp (vz.2 (.inr (.inr ⟨t,hi t ht,hk⟩)))
  ·exact hq (vz.2 (.inr (.inr ⟨t,hi t ht,hk⟩)))
  ·exact (h.nb t (hi t ht)).1 hk
  ·exact pwc t ht k hk e
 have ilt:∀ t,t∈ini->∀ k,k∈t.2.1->k<w.heap.size:=fun t ht=>(h.fm t (hi t ht)).lt
 have ffv:∀ k,k∈Bf->k∉fv.ownBlock.toList:=(h.nb _ hl).2
 have tb:∀ t,t∈tl->b∉t.2.1:=fun t ht hk=>by
  rcases hnew t ht b hk with e | e
  ·exact (h.nb _ hl).1 e
  ·omega
 refine ⟨_,⟨dv',fv',ini++tl,⟨ho,hd,fun k hk=>h.dr k (hdv k hk),hfq,hmf,fun t ht=>?_,fun hk=>?_,fun t ht=>?_,?_,fun k hk=>?_,fun k hk=>?_⟩,rfl⟩,fun k hk=>?_⟩
 ·rcases List.mem_append.1 ht with ht | ht
  ·exact (h.fm t (hi t ht)).kept F (iS t ht)
  ·exact hfm t ht
 ·rcases hfv b hk with e | e
  ·exact h.nf e
  ·omega
 ·rcases List.mem_append.1 ht with ht | ht
  ·refine ⟨(h.nb t (hi t ht)).1,fun k hk hv=>?_⟩
   rcases hfv k hv with e | e
   ·exact (h.nb t (hi t ht)).2 k hk e
   ·have:=ilt t ht k hk;omega
  ·refine ⟨tb t ht,fun k hk hv=>?_⟩
   rcases hfv k hv with e | e
   ·rcases hnew t ht k hk with e2 | e2
    ·exact ffv k e2 e
    ·have:=h.lt k e;omega
   ·exact e.2.2 t ht hk
 ·refine List.pairwise_append.2 ⟨pwi,hpw,fun s hs t ht k hk hk2=>?_⟩
  rcases hnew t ht k hk2 with e | e
  ·exact pwc s hs k hk e
  ·have:=ilt s hs k hk;omega
 ·rcases hfv k hk with e | e
  ·exact qj (h.lt k e) F.size
  ·exact e.2.1
 ·obtain ⟨r1,r2,r3,r4⟩:=h.rr k hk
  refine ⟨qj r1 F.size,r2,fun hv=>?_,fun t ht hv=>?_⟩
  ·rcases hfv k hv with e | e
   ·exact r3 e
   ·omega
  ·rcases List.mem_append.1 ht with ht | ht
   ·exact r4 t (hi t ht) hv
   ·rcases hnew t ht k hv with e | e
    ·exact r4 _ hl e
    ·omega
 ·rcases vz.1 hk with rfl | hk | ⟨t,ht,hk⟩
  ·exact .inl (vz.2 (.inl rfl))
  ·exact (hfv k hk).imp (fun e=>vz.2 (.inr (.inl e))) (fun e=>e.1)
  ·rcases List.mem_append.1 ht with ht | ht
   ·exact .inl (vz.2 (.inr (.inr ⟨t,hi t ht,hk⟩)))
   ·exact (hnew t ht k hk).imp (fun e=>vz.2 (.inr (.inr ⟨_,hl,e⟩))) id
structure q0d (c:Cf) (f:Fm):Prop where
 lc:f.l.c=c
 s:∀ x,f.s=some x->x.c=c
 n:∀ x,f.n=some x->Ry x
 b:∀ x,f.part=5->f.b=some x->Ze x
 p:∀ x,f.p=some x->x.c=c
structure X7 (N:Nat) (m:Md):Prop where
 c:m.c.Ok
 f:∀ g,g∈m.f->q0d m.c g
 len:m.f.length<=N
theorem Qw {w w':World} {R:List Nat} {b p q fb:Nat} {Bf:List Nat} {f:Fm} {m m':Md} {dv fv dv' fv':Value} {ini tl:List (Nat×List Nat×Fm)} (h:qdi w R b m dv fv (ini++[(fb,Bf,f)]))
  (hp:p∉mdB b fv (ini++[(fb,Bf,f)])) (hq:q∉mdB b fv (ini++[(fb,Bf,f)])) (hpR:p∉R) (hqR:q∉R) {S:List Nat} (F:Fr S w w') (hS:∀ k,k∈S->k=p\/k=q\/k=b\/k∈Bf)
  {S':St} {over:Bool} {e:Ending} (he:e = .returned (.bool over)) (hA:Rar w' p q S')
  (ho:Z1 w' b m' dv' fv') (hd:Sq fI w' dv' m'.draws) (hdv:∀ k,k∈dv'.ownBlock.toList->k∈dv.ownBlock.toList)
  (hfq:Sq fP w' fv' ((ini++tl).map (·.1))) (hmf:m'.f=(ini++tl).map (·.2.2)) (hfm:∀ t,t∈tl->q9s w' t.2.1 t.1 t.2.2) (hnew:∀ t,t∈tl->∀ k,k∈t.2.1->k∈Bf\/w.heap.size<=k)
  (hpw:tl.Pairwise (fun s t=>∀ k,k∈s.2.1->k∉t.2.1)) (hfv:∀ k,k∈fv'.ownBlock.toList->k∈fv.ownBlock.toList\/(w.heap.size<=k/\k<w'.heap.size/\∀ t,t∈tl->k∉t.2.1)) :
  Stp w (fun w' B'=>Tt w' R B' b m') (mdB b fv (ini++[(fb,Bf,f)])) p q S' over e w':=by
 obtain ⟨B',h1,h2⟩:=qbf h hp hq hpR hqR F hS ho hd hdv hfq hmf hfm hnew hpw hfv
 refine ⟨he,⟨B',h1,h2⟩,hA,F.mono (fun k hk=>?_)⟩
 simp only [List.mem_cons]
 rcases hS k hk with e | e | e | e
 ·exact .inl e
 ·exact .inr (.inl e)
 ·exact .inr (.inr (vz.2 (.inl e)))
 ·exact .inr (.inr (vz.2 (.inr (.inr ⟨(fb,Bf,f),by simp,e⟩))))
theorem qb8 (N:Nat) (hN:N<=90000) (m:Md) (hm:X7 N m) (hne:m.f≠[]) (R B:List Nat) (b p q:Nat) (s:St) (w:World) (h:Tt w R B b m) (hA:Rar w p q s) (hp:p∉B) (hq:q∉B) (hpR:p∉R) (hqR:q∉R) :
  Calls Tryz.prog 162 #[.pointer (some ⟨b,0,none⟩),.pointer (some ⟨p,0,none⟩)] w (Stp w (fun w' B'=>Tt w' R B' b (m.step s).1) B p q (m.step s).2 (decide ((m.step s).1.f=[]))):=by
 obtain ⟨dv,fv,fr,h,rfl⟩:=h
 rcases List.eq_nil_or_concat fr with rfl | ⟨ini,⟨fb,Bf,f⟩,rfl⟩
 ·exact absurd h.mf hne
 have hmf:=h.mf
 rw [List.concat_eq_append] at h hp hq hmf ⊢
 rw [List.map_append] at hmf
 simp only [List.map_cons,List.map_nil] at hmf
 have hgl:m.f.getLast? = some f:=by rw [hmf];simp
 have hdl:m.f.dropLast=ini.map (·.2.2):=by rw [hmf];simp
 have hl:((fb,Bf,f):Nat×List Nat×Fm)∈ini++[(fb,Bf,f)]:=by simp
 have hlen:ini.length<=99999:=by have:=hm.len;rw [hmf] at this;simp at this;omega
 have hfok:=hm.f f (by rw [hmf];simp)
 have hc:=hm.c
 have hFq:=h.fq
 rw [List.map_append] at hFq
 simp only [List.map_cons,List.map_nil] at hFq
 obtain ⟨lb,sp,np,bp,pp,Bx,hf,hL,hsub,nfl,nfx,nlx,hBf⟩:=h.fm _ hl
 simp only at hf hL hsub hBf nfl nfx nlx
 subst hBf
 have fbm:∀ k,k∈fb :: lb :: Bx->k∈mdB b fv (ini++[(fb,fb :: lb :: Bx,f)]):=fun k hk=>vz.2 (.inr (.inr ⟨_,hl,hk⟩))
 have nbB:=(h.nb _ hl).1
 have nvB:=(h.nb _ hl).2
 simp only at nbB nvB
 have npB:p∉fb :: lb :: Bx:=fun e=>hp (fbm p e)
 have nqB:q∉fb :: lb :: Bx:=fun e=>hq (fbm q e)
 have nbp:¬ b=p:=fun e=>hp (vz.2 (.inl e.symm))
 have nbq:¬ b=q:=fun e=>hq (vz.2 (.inl e.symm))
 have npv:p∉fv.ownBlock.toList:=fun e=>hp (vz.2 (.inr (.inl e)))
 have nqv:q∉fv.ownBlock.toList:=fun e=>hq (vz.2 (.inr (.inl e)))
 have rB:∀ k,k∈dv.ownBlock.toList->k∉fb :: lb :: Bx:=fun k hk=>(h.rr k (h.dr k hk)).2.2.2 _ hl
 have rb:b∉dv.ownBlock.toList:=fun hk=>(h.rr b (h.dr b hk)).2.1 rfl
 have rp:p∉dv.ownBlock.toList:=fun hk=>hpR (h.dr p hk)
 have rq:q∉dv.ownBlock.toList:=fun hk=>hqR (h.dr q hk)
 simp only [List.mem_cons,not_or] at nbB npB nqB
 have nF:b∉fv.ownBlock.toList/\fb∉fv.ownBlock.toList/\lb∉fv.ownBlock.toList/\p∉fv.ownBlock.toList/\q∉fv.ownBlock.toList:=⟨h.nf,nvB fb (by simp),nvB lb (by simp),npv,nqv⟩
 have nfp:¬ fb=p:=fun e=>npB.1 e.symm
 have nfq:¬ fb=q:=fun e=>nqB.1 e.symm
 have nlp:¬ lb=p:=fun e=>npB.2.1 e.symm
 have nlq:¬ lb=q:=fun e=>nqB.2.1 e.symm
 have hlen2:(ini.map (·.1)).length<=100000:=by simp;omega
 have hlen3:(ini.map (·.1)).length<=99999:=by simp;exact hlen
 have Sm:∀ (f':Fm),(ini.map (·.2.2)++[f']=([]:List Fm))=False:=fun f'=>by simp
 have keepF:∀ (S:List Nat) (w':World),Fr S w w'->(∀ k,k∈S->k=p\/k=q\/k=b\/k∈fb :: lb :: Bx)->Sq fP w' fv (ini.map (·.1)++[fb])/\Sq fI w' dv m.draws:=fun S w' F hS =>
  ⟨hFq.kept F (fun k hk hi=>by rcases hS k hi with rfl | rfl | rfl | e;exact npv hk;exact nqv hk;exact h.nf hk;exact nvB k e hk),h.d.kept F (fun k hk hi=>by rcases hS k hi with rfl | rfl | rfl | e;exact rp hk;exact rq hk;exact rb hk;exact rB k hk e)⟩
 rcases hsub with ⟨hpt,hnp,hn0,rfl⟩ | ⟨hpt,hnp,hn0,x,sb,hs,rfl,hS,rfl⟩ | ⟨hpt,hnp,hn0,rfl⟩ | ⟨hpt,hnp,hn0,rfl⟩ | ⟨hpt,x,nb,hn,rfl,hN⟩ | ⟨hpt,x,bb,hb,rfl,hB⟩ | ⟨hpt,x,pb,hp6,rfl,hP,rfl⟩
 ·-- part 1
  have e1:m.step s=({ (if (f.l.step s).1.drew=true/\f.l.drew=false/\m.draws≠[] then { m with draws:=m.draws.tail } else m) with f:=ini.map (·.2.2)++[if (f.l.step s).1.line=0 then { f with l:=(f.l.step s).1,part:=2,s:=some (Sl.new m.c (f.l.step s).1.three.1 (f.l.step s).1.three.2.1) } else { f with l:=(f.l.step s).1 }] },(f.l.step s).2):=by
   unfold Md.step;rw [hgl];simp only;rw [qf hpt,hdl]
  rw [e1]
  simp only [List.mem_cons,List.not_mem_nil,or_false,not_or,not_false_eq_true,and_true] at nbB npB nqB
  refine (qax m f hpt hc (by rw [hfok.lc];exact hc) b fb lb p q sp np bp pp dv fv (ini.map (·.1)) s w h.o hFq hlen2 hf hL hA nbB.1 nbB.2 nfl nbp nbq nfp nfq nlp nlq h.d ⟨rb,fun e=>rB fb e (by simp),fun e=>rB lb e (by simp),rp,rq⟩ nF).mono ?_
  rintro e w' ⟨⟨⟨dv',hd',hdv',ho⟩,h2⟩,hL',hA',F,he⟩
  have hSS:∀ k,k∈[b,fb,lb,p,q]->k=p\/k=q\/k=b\/k∈fb :: lb :: []:=fun k hk=>by simp at hk ⊢;rcases hk with h | h | h | h | h <;> simp [h]
  obtain ⟨k1,-⟩:=keepF _ w' F hSS
  have hm':∀ (M:List Fm),Z1 w' b ({ (if (f.l.step s).1.drew=true/\f.l.drew=false/\m.draws≠[] then { m with draws:=m.draws.tail } else m) with f:=M }:Md) dv' fv:=fun M=>by split <;> exact ho
  have hd2:∀ (M:List Fm),Sq fI w' dv' ({ (if (f.l.step s).1.drew=true/\f.l.drew=false/\m.draws≠[] then { m with draws:=m.draws.tail } else m) with f:=M }:Md).draws:=fun M=>by
   split
   ·rename_i hcd;rw [qf hcd] at hd';exact hd'
   ·rename_i hcd;rw [qd hcd] at hd';exact hd'
  rcases h2 with ⟨hl0,sb,hsb,hf',hs'⟩ | ⟨hl0,hf'⟩
  ·rw [qf hl0]
   have hfl:=(h.fm _ hl).lt
   have b1:=hfl fb (by simp)
   have b2:=hfl lb (by simp)
   refine Qw (tl:=[(fb,fb :: lb :: [sb],{ f with l:=(f.l.step s).1,part:=2,s:=some (Sl.new m.c (f.l.step s).1.three.1 (f.l.step s).1.three.2.1) })]) h hp hq hpR hqR F hSS (by rw [he];simp) hA' (hm' _) (hd2 _) hdv' (by simpa using k1) (by simp) (fun t ht=>?_) (fun t ht k hk=>?_) (by simp) (fun k hk=>.inl hk)
   ·rw [List.mem_singleton.1 ht]
    exact ⟨lb,some sb,np,bp,pp,[sb],hf',hL',.inr (.inl ⟨rfl,hnp,hn0,_,sb,rfl,rfl,hs',rfl⟩),nfl,by simp;omega,by simp;omega,rfl⟩
   ·rw [List.mem_singleton.1 ht] at hk
    simp at hk
    rcases hk with h | h | h
    ·exact .inl (by simp [h])
    ·exact .inl (by simp [h])
    ·exact .inr (by rw [h];exact hsb)
  ·rw [qd hl0]
   refine Qw (tl:=[(fb,fb :: lb :: [],{ f with l:=(f.l.step s).1 })]) h hp hq hpR hqR F hSS (by rw [he];simp) hA' (hm' _) (hd2 _) hdv' (by simpa using k1) (by simp) (fun t ht=>?_) (fun t ht k hk=>?_) (by simp) (fun k hk=>.inl hk)
   ·rw [List.mem_singleton.1 ht]
    exact ⟨lb,sp,np,bp,pp,[],hf',hL',.inl ⟨hpt,hnp,hn0,rfl⟩,nfl,by simp,by simp,rfl⟩
   ·rw [List.mem_singleton.1 ht] at hk;exact .inl hk
 ·-- part 2
  simp only [List.mem_cons,List.not_mem_nil,or_false,not_or,not_false_eq_true,and_true] at nbB npB nqB nfx nlx
  have e1:m.step s=({ m with f:=ini.map (·.2.2)++[{ f with s:=some (x.step s).1,part:=if (x.step s).1.line=0 then 3 else 2 }] },(x.step s).2):=by
   unfold Md.step;rw [hgl];simp only;rw [qd (by omega),qf hpt,hs,hdl]
  rw [e1]
  refine (qan m f hpt x (by rw [hfok.s x hs];exact hc) sb b fb lb p q (some sb) np bp pp dv fv (ini.map (·.1)) s w h.o hFq hlen2 hf hL hA nbB.1 nbB.2.1 nfl nbp nbq nfp nfq nlp nlq rfl hS (Ne.symm npB.2.2) (Ne.symm nqB.2.2) nbB.2.2 nfx nF).mono ?_
  rintro e w' ⟨he,ho,hf',hS',hA',F⟩
  have hSS:∀ k,k∈[fb,sb,p,q]->k=p\/k=q\/k=b\/k∈fb :: lb :: [sb]:=fun k hk=>by simp at hk ⊢;rcases hk with h | h | h | h <;> simp [h]
  obtain ⟨k1,k2⟩:=keepF _ w' F hSS
  have kL:=Ob.kept hL F (by simp;exact ⟨Ne.symm nfl,nlx,nlp,nlq⟩)
  by_cases hl0:(x.step s).1.line=0
  ·rw [qf hl0] at hf' ⊢
   refine Qw (tl:=[(fb,fb :: lb :: [],{ f with s:=some (x.step s).1,part:=3 })]) h hp hq hpR hqR F hSS (by rw [he];simp) hA' ho k2 (fun k hk=>hk) (by simpa using k1) (by simp) (fun t ht=>?_) (fun t ht k hk=>?_) (by simp) (fun k hk=>.inl hk)
   ·rw [List.mem_singleton.1 ht]
    exact ⟨lb,some sb,np,bp,pp,[],hf',kL,.inr (.inr (.inl ⟨rfl,hnp,hn0,rfl⟩)),nfl,by simp,by simp,rfl⟩
   ·rw [List.mem_singleton.1 ht] at hk;exact .inl (by simp at hk ⊢;rcases hk with h | h <;> simp [h])
  ·rw [qd hl0] at hf' ⊢
   refine Qw (tl:=[(fb,fb :: lb :: [sb],{ f with s:=some (x.step s).1,part:=2 })]) h hp hq hpR hqR F hSS (by rw [he];simp) hA' ho k2 (fun k hk=>hk) (by simpa using k1) (by simp) (fun t ht=>?_) (fun t ht k hk=>?_) (by simp) (fun k hk=>.inl hk)
   ·rw [List.mem_singleton.1 ht]
    exact ⟨lb,some sb,np,bp,pp,[sb],hf',kL,.inr (.inl ⟨rfl,hnp,hn0,_,sb,rfl,rfl,hS',rfl⟩),nfl,by simpa using nfx,by simpa using nlx,rfl⟩
   ·rw [List.mem_singleton.1 ht] at hk;exact .inl hk
 ·-- part 3
  have e1:m.step s=({ m with f:=ini.map (·.2.2)++[if qq s.l (wrap64 (f.l.three.1+5))=0 then { f with part:=4 } else f.splice m.c (qq s.l (wrap64 (f.l.three.1+5)))] },s.load (wrap64 (f.l.three.1+5))):=by
   unfold Md.step;rw [hgl];simp only;rw [qd (by omega),qd (by omega),qf hpt,hdl]
  rw [e1]
  simp only [List.mem_cons,List.not_mem_nil,or_false,not_or,not_false_eq_true,and_true] at nbB npB nqB
  refine (qap m f hpt hc b fb lb p q sp np bp pp dv fv (ini.map (·.1)) s w h.o hFq hlen2 hf hL hA nbB.1 nbB.2 nfl nbp nbq nfp nfq nlp nlq nF).mono ?_
  rintro e w' ⟨he,ho,hL',haf,hA',F⟩
  have hSS:∀ k,k∈[fb,p,q]->k=p\/k=q\/k=b\/k∈fb :: lb :: []:=fun k hk=>by simp at hk ⊢;rcases hk with h | h | h <;> simp [h]
  obtain ⟨k1,k2⟩:=keepF _ w' F hSS
  have hfl:=(h.fm _ hl).lt
  have b1:=hfl fb (by simp)
  have b2:=hfl lb (by simp)
  rcases haf with ⟨hr,hf'⟩ | ⟨hr,pb,hpb,hf',hp'⟩
  ·rw [qf hr]
   refine Qw (tl:=[(fb,fb :: lb :: [],{ f with part:=4 })]) h hp hq hpR hqR F hSS (by rw [he];simp) hA' ho k2 (fun k hk=>hk) (by simpa using k1) (by simp) (fun t ht=>?_) (fun t ht k hk=>?_) (by simp) (fun k hk=>.inl hk)
   ·rw [List.mem_singleton.1 ht]
    exact ⟨lb,sp,np,bp,pp,[],hf',hL',.inr (.inr (.inr (.inl ⟨rfl,hnp,hn0,rfl⟩))),nfl,by simp,by simp,rfl⟩
   ·rw [List.mem_singleton.1 ht] at hk;exact .inl hk
  ·rw [qd hr]
   refine Qw (tl:=[(fb,fb :: lb :: [pb],f.splice m.c (qq s.l (wrap64 (f.l.three.1+5))))]) h hp hq hpR hqR F hSS (by rw [he];simp) hA' ho k2 (fun k hk=>hk) (by simpa using k1) (by simp) (fun t ht=>?_) (fun t ht k hk=>?_) (by simp) (fun k hk=>.inl hk)
   ·rw [List.mem_singleton.1 ht]
    exact ⟨lb,sp,np,bp,some pb,[pb],hf',hL',.inr (.inr (.inr (.inr (.inr (.inr ⟨rfl,_,pb,rfl,rfl,hp',rfl⟩))))),nfl,by simp;omega,by simp;omega,rfl⟩
   ·rw [List.mem_singleton.1 ht] at hk
    simp at hk
    rcases hk with h | h | h
    ·exact .inl (by simp [h])
    ·exact .inl (by simp [h])
    ·exact .inr (by rw [h];exact hpb)
 ·-- part 4,no need yet
  have e1:m.step s=({ m with f:=ini.map (·.2.2)++[{ f with n:=some (Nd.new m.c) }] },s.load 1):=by
   unfold Md.step;rw [hgl];simp only;rw [qd (by omega),qd (by omega),qd (by omega),qf hpt,hn0,hdl]
  rw [e1]
  simp only [List.mem_cons,List.not_mem_nil,or_false,not_or,not_false_eq_true,and_true] at nbB npB nqB
  refine (q7q m f hpt hc b fb lb p q sp np bp pp dv fv (ini.map (·.1)) s w h.o hFq hlen2 hf hL hA nbB.1 nbB.2 nfl nbp nbq nfp nfq nlp nlq hnp nF).mono ?_
  rintro e w' ⟨he,ho,hL',⟨nb,hnb,hf',hn'⟩,hA',F⟩
  have hSS:∀ k,k∈[fb,p,q]->k=p\/k=q\/k=b\/k∈fb :: lb :: []:=fun k hk=>by simp at hk ⊢;rcases hk with h | h | h <;> simp [h]
  obtain ⟨k1,k2⟩:=keepF _ w' F hSS
  have hfl:=(h.fm _ hl).lt
  have b1:=hfl fb (by simp)
  have b2:=hfl lb (by simp)
  refine Qw (tl:=[(fb,fb :: lb :: [nb],{ f with n:=some (Nd.new m.c) })]) h hp hq hpR hqR F hSS (by rw [he];simp) hA' ho k2 (fun k hk=>hk) (by simpa using k1) (by simp) (fun t ht=>?_) (fun t ht k hk=>?_) (by simp) (fun k hk=>.inl hk)
  ·rw [List.mem_singleton.1 ht]
   exact ⟨lb,sp,some nb,bp,pp,[nb],hf',hL',.inr (.inr (.inr (.inr (.inl ⟨hpt,_,nb,rfl,rfl,.slice none 0 0,hn',Sq.nil _,by simp [Value.ownBlock],by simp [Value.ownBlock],fun k hk=>by simp at hk;subst hk;exact Ob.lt hn'⟩)))),nfl,by simp;omega,by simp;omega,rfl⟩
  ·rw [List.mem_singleton.1 ht] at hk
   simp at hk
   rcases hk with h | h | h
   ·exact .inl (by simp [h])
   ·exact .inl (by simp [h])
   ·exact .inr (by rw [h];exact hnb)
 ·-- part 4,the need
  obtain ⟨lv,hN1,hN2,hN3,rfl,hN5⟩:=hN
  have e1:m.step s=({ m with f:=ini.map (·.2.2)++[if (x.step s).1.line=0 then { f with n:=some (x.step s).1,part:=5,b:=some (Bd.new m.c f.l.three.1 f.l.three.2.1 f.l.three.2.2 (x.step s).1.l) } else { f with n:=some (x.step s).1 }] },(x.step s).2):=by
   unfold Md.step;rw [hgl];simp only;rw [qd (by omega),qd (by omega),qd (by omega),qf hpt,hn,hdl]
  rw [e1]
  simp only [List.mem_cons,not_or] at nbB npB nqB nfx nlx
  have hok:=hfok.n x hn
  obtain ⟨sl1,sl2⟩:=q2g x lv s
  refine (q8l m f hpt hc { x with lv:=lv } hok.c ⟨hok.t0,hok.t8⟩ (by have h1:=hok.l;have h2:=hok.t8;show x.l.length<=1000;omega) nb b fb lb p q sp (some nb) bp pp dv fv (ini.map (·.1)) s w h.o hFq hlen2 hf hL hA nbB.1 nbB.2.1 nfl nbp nbq nfp nfq nlp nlq rfl hN1 hN2 hN3 npB.2.2.2 nqB.2.2.2 (Ne.symm npB.2.2.1) (Ne.symm nqB.2.2.1) nbB.2.2.1 nfx.1 nlx.1 nfx.2 (fun k hk=>hN5 k (by simp [hk])) nF).mono ?_
  rintro e w' ⟨he,ho,hL',haf,hA',F⟩
  rw [sl2] at hA'
  rw [sl1] at haf
  have hSS:∀ k,k∈[fb,nb,p,q]->k=p\/k=q\/k=b\/k∈fb :: lb :: (nb :: lv.ownBlock.toList):=fun k hk=>by simp at hk ⊢;rcases hk with h | h | h | h <;> simp [h]
  obtain ⟨k1,k2⟩:=keepF _ w' F hSS
  have hfl:=(h.fm _ hl).lt
  have b1:=hfl fb (by simp)
  have b2:=hfl lb (by simp)
  rcases haf with ⟨hl0,hf',lv',hn',hs',hlv⟩ | ⟨hl0,bb,B,hbb,hf',hB',hBs⟩
  ·replace hl0:(x.step s).1.line≠0:=hl0
   replace hs':Sq fI w' lv' (x.step s).1.l:=hs'
   rw [qd hl0]
   have hsub:∀ k,k∈lv'.ownBlock.toList->k∈lv.ownBlock.toList\/w.heap.size<=k:=fun k hk=>by
    rcases hlv with e | ⟨-,e⟩
    ·rw [e] at hk;exact .inl hk
    ·exact .inr (e k hk)
   have hlt':∀ k,k∈lv'.ownBlock.toList->k<w'.heap.size:=fun k hk=>by
    rcases hlv with e | ⟨hne,-⟩
    ·rw [e] at hk;exact qj (hN5 k (by simp;exact .inr (by simpa using hk))) F.size
    ·exact Q7 hs' hne k hk
   have nn:nb∉lv'.ownBlock.toList:=fun hi=>by
    rcases hsub nb hi with e | e
    ·exact hN3 e
    ·have:=hN5 nb (by simp);omega
   refine Qw (tl:=[(fb,fb :: lb :: (nb :: lv'.ownBlock.toList),{ f with n:=some (x.step s).1 })]) h hp hq hpR hqR F hSS (by rw [he];simp) hA' ho k2 (fun k hk=>hk) (by simpa using k1) (by simp) (fun t ht=>?_) (fun t ht k hk=>?_) (by simp) (fun k hk=>.inl hk)
   ·rw [List.mem_singleton.1 ht]
    refine ⟨lb,sp,some nb,bp,pp,nb :: lv'.ownBlock.toList,hf',hL',.inr (.inr (.inr (.inr (.inl ⟨hpt,_,nb,rfl,rfl,lv',hn',hs',nn,rfl,fun k hk=>?_⟩)))),nfl,fun hi=>?_,fun hi=>?_,rfl⟩
    ·rcases List.mem_cons.1 hk with rfl | hk
     ·exact Ob.lt hn'
     ·exact hlt' k hk
    ·rcases List.mem_cons.1 hi with e | e
     ·exact nfx.1 e
     ·rcases hsub fb e with e | e
      ·exact nfx.2 e
      ·omega
    ·rcases List.mem_cons.1 hi with e | e
     ·exact nlx.1 e
     ·rcases hsub lb e with e | e
      ·exact nlx.2 e
      ·omega
   ·rw [List.mem_singleton.1 ht] at hk
    rcases List.mem_cons.1 hk with h | hk
    ·exact .inl (by simp [h])
    ·rcases List.mem_cons.1 hk with h | hk
     ·exact .inl (by simp [h])
     ·rcases List.mem_cons.1 hk with h | hk
      ·exact .inl (by simp [h])
      ·exact (hsub k hk).imp (fun e=>by simp only [List.mem_cons];exact .inr (.inr (.inr e))) id
  ·replace hl0:(x.step s).1.line=0:=hl0
   rw [qf hl0]
   refine Qw (tl:=[(fb,fb :: lb :: B,{ f with n:=some (x.step s).1,part:=5,b:=some (Bd.new m.c f.l.three.1 f.l.three.2.1 f.l.three.2.2 (x.step s).1.l) })]) h hp hq hpR hqR F hSS (by rw [he];simp) hA' ho k2 (fun k hk=>hk) (by simpa using k1) (by simp) (fun t ht=>?_) (fun t ht k hk=>?_) (by simp) (fun k hk=>.inl hk)
   ·rw [List.mem_singleton.1 ht]
    refine ⟨lb,sp,some nb,some bb,pp,B,hf',hL',.inr (.inr (.inr (.inr (.inr (.inl ⟨rfl,_,bb,rfl,rfl,hB'⟩))))),nfl,fun hi=>?_,fun hi=>?_,rfl⟩
    ·rcases hBs fb hi with e | e
     ·exact nfx.2 e
     ·omega
    ·rcases hBs lb hi with e | e
     ·exact nlx.2 e
     ·omega
   ·rw [List.mem_singleton.1 ht] at hk
    rcases List.mem_cons.1 hk with h | hk
    ·exact .inl (by simp [h])
    ·rcases List.mem_cons.1 hk with h | hk
     ·exact .inl (by simp [h])
     ·exact (hBs k hk).imp (fun e=>by simp only [List.mem_cons];exact .inr (.inr (.inr e))) id
 ·-- part 5
  have e1:m.step s=(if (x.step s).1.line=0 then (if (x.step s).1.e=0 then { m with f:=ini.map (·.2.2)++[({ f with b:=some (x.step s).1 }:Fm).splice m.c (x.step s).1.repl] } else { m with e:=(x.step s).1.e,f:=[] }) else { m with f:=ini.map (·.2.2)++[{ f with b:=some (x.step s).1 }] },(x.step s).2):=by
   unfold Md.step;rw [hgl];simp only;rw [qd (by omega),qd (by omega),qd (by omega),qd (by omega),qf hpt,hb,hdl]
  rw [e1]
  refine (qam m f hpt hc x (hfok.b x hpt hb) bb Bx b fb lb p q sp np (some bb) pp dv fv (ini.map (·.1)) s w h.o hFq hlen2 hf hL hA nbB.1 nbB.2.1 nfl nbp nbq nfp nfq nlp nlq rfl hB ⟨nbB.2.2,nfx,nlx,npB.2.2,nqB.2.2⟩ nF).mono ?_
  rintro e w' ⟨haf,hL',hA',F⟩
  have hSS:∀ k,k∈b :: fb :: p :: q :: Bx->k=p\/k=q\/k=b\/k∈fb :: lb :: Bx:=fun k hk=>by simp at hk ⊢;rcases hk with h | h | h | h | h <;> simp [h]
  obtain ⟨k1,k2⟩:=keepF _ w' F hSS
  have hfl:=(h.fm _ hl).lt
  have b1:=hfl fb (by simp)
  have b2:=hfl lb (by simp)
  rcases haf with ⟨hl0,he,ho,hf',B',hB',hBs⟩ | ⟨hl0,he0,he,ho,pb,hpb,hf',hp'⟩ | ⟨hl0,he0,he,ho⟩
  ·rw [qd hl0]
   refine Qw (tl:=[(fb,fb :: lb :: B',{ f with b:=some (x.step s).1 })]) h hp hq hpR hqR F hSS (by rw [he];simp) hA' ho k2 (fun k hk=>hk) (by simpa using k1) (by simp) (fun t ht=>?_) (fun t ht k hk=>?_) (by simp) (fun k hk=>.inl hk)
   ·rw [List.mem_singleton.1 ht]
    refine ⟨lb,sp,np,some bb,pp,B',hf',hL',.inr (.inr (.inr (.inr (.inr (.inl ⟨hpt,_,bb,rfl,rfl,hB'⟩))))),nfl,fun hi=>?_,fun hi=>?_,rfl⟩
    ·rcases hBs fb hi with e | e
     ·exact nfx e
     ·omega
    ·rcases hBs lb hi with e | e
     ·exact nlx e
     ·omega
   ·rw [List.mem_singleton.1 ht] at hk
    rcases List.mem_cons.1 hk with h | hk
    ·exact .inl (by simp [h])
    ·rcases List.mem_cons.1 hk with h | hk
     ·exact .inl (by simp [h])
     ·exact (hBs k hk).imp (fun e=>by simp only [List.mem_cons];exact .inr (.inr e)) id
  ·rw [qf hl0,qf he0]
   refine Qw (tl:=[(fb,fb :: lb :: [pb],({ f with b:=some (x.step s).1 }:Fm).splice m.c (x.step s).1.repl)]) h hp hq hpR hqR F hSS (by rw [he];simp) hA' ho k2 (fun k hk=>hk) (by simpa using k1) (by simp) (fun t ht=>?_) (fun t ht k hk=>?_) (by simp) (fun k hk=>.inl hk)
   ·rw [List.mem_singleton.1 ht]
    exact ⟨lb,sp,np,some bb,some pb,[pb],hf',hL',.inr (.inr (.inr (.inr (.inr (.inr ⟨rfl,_,pb,rfl,rfl,hp',rfl⟩))))),nfl,by simp;omega,by simp;omega,rfl⟩
   ·rw [List.mem_singleton.1 ht] at hk
    simp at hk
    rcases hk with h | h | h
    ·exact .inl (by simp [h])
    ·exact .inl (by simp [h])
    ·exact .inr (by rw [h];exact hpb)
  ·rw [qf hl0,qd he0]
   refine ⟨by rw [he];simp,⟨[b],⟨dv,.slice none 0 0,[],⟨ho,k2,h.dr,Sq.nil _,rfl,by simp,by simp [Value.ownBlock],by simp,by simp,by simp [Value.ownBlock],fun k hk=>⟨qj (h.rr k hk).1 F.size,(h.rr k hk).2.1,by simp [Value.ownBlock],by simp⟩⟩,by simp [mdB,Value.ownBlock]⟩,fun k hk=>by simp at hk;subst hk;exact .inl (vz.2 (.inl rfl))⟩,hA',F.mono (fun k hk=>?_)⟩
   simp only [List.mem_cons]
   rcases hSS k hk with e | e | e | e
   ·exact .inl e
   ·exact .inr (.inl e)
   ·exact .inr (.inr (vz.2 (.inl e)))
   ·exact .inr (.inr (fbm k e))
 ·-- part 6
  have e1:m.step s=(if (x.step s).1.line=0 then (if (x.step s).1.stuck=0 then { m with f:=ini.map (·.2.2) } else { m with f:=ini.map (·.2.2)++[({ f with p:=some (x.step s).1 }:Fm).splice m.c f.repl,Fm.new m.c (x.step s).1.stuck (J1 m.draws)] }) else { m with f:=ini.map (·.2.2)++[{ f with p:=some (x.step s).1 }] },(x.step s).2):=by
   unfold Md.step;rw [hgl];simp only;rw [qd (by omega),qd (by omega),qd (by omega),qd (by omega),qd (by omega),qf hpt,hp6,hdl]
  rw [e1]
  simp only [List.mem_cons,List.not_mem_nil,or_false,not_or,not_false_eq_true,and_true] at nbB npB nqB nfx nlx
  have npv6:pb∉fv.ownBlock.toList:=nvB pb (by simp)
  refine (qb1 m f hpt hc x (by rw [hfok.p x hp6];exact hc) pb b fb lb p q sp np bp (some pb) dv fv (ini.map (·.1)) s w h.o hFq hlen2 hf hL hA nbB.1 nbB.2.1 nfl nbp nbq nfp nfq nlp nlq hlen3 rfl hP (Ne.symm npB.2.2) (Ne.symm nqB.2.2) nbB.2.2 nfx nlx h.d ⟨rb,fun e=>rB fb e (by simp),fun e=>rB pb e (by simp),rp,rq⟩ npv6 nF).mono ?_
  rintro e w' ⟨he,hL',haf,hA',F⟩
  have hSS:∀ k,k∈[b,fb,pb,p,q]->k=p\/k=q\/k=b\/k∈fb :: lb :: [pb]:=fun k hk=>by simp at hk ⊢;rcases hk with h | h | h | h | h <;> simp [h]
  obtain ⟨k1,k2⟩:=keepF _ w' F hSS
  have hfl:=(h.fm _ hl).lt
  have b1:=hfl fb (by simp)
  have b2:=hfl lb (by simp)
  rcases haf with ⟨hl0,ho,hf',hp'⟩ | ⟨hl0,hs0,fv',ho,hF',hsub⟩ | ⟨hl0,hs0,pb2,fv',fb2,lb2,ho,hF',hf',hp',hg',hq',s1,s2,s3,s4,s5,s6,s7⟩
  ·rw [qd hl0]
   have ov:Yo (x.step s).1 (ini.map (·.1))=false:=by unfold Yo;simp [hl0]
   refine Qw (tl:=[(fb,fb :: lb :: [pb],{ f with p:=some (x.step s).1 })]) h hp hq hpR hqR F hSS (by rw [he,ov];simp) hA' ho k2 (fun k hk=>hk) (by simpa using k1) (by simp) (fun t ht=>?_) (fun t ht k hk=>?_) (by simp) (fun k hk=>.inl hk)
   ·rw [List.mem_singleton.1 ht]
    exact ⟨lb,sp,np,bp,some pb,[pb],hf',hL',.inr (.inr (.inr (.inr (.inr (.inr ⟨hpt,_,pb,rfl,rfl,hp',rfl⟩))))),nfl,by simpa using nfx,by simpa using nlx,rfl⟩
   ·rw [List.mem_singleton.1 ht] at hk;exact .inl hk
  ·rw [qf hl0,qf hs0]
   have ov:Yo (x.step s).1 (ini.map (·.1))=decide (ini.map (·.2.2)=([]:List Fm)):=by unfold Yo;simp [hl0,hs0]
   exact Qw (tl:=[]) h hp hq hpR hqR F hSS (by rw [he,ov]) hA' ho k2 (fun k hk=>hk) (by simpa using hF') (by simp) (by simp) (by simp) (by simp) (fun k hk=>.inl (hsub k hk))
  ·rw [qf hl0,qd hs0]
   have ov:Yo (x.step s).1 (ini.map (·.1))=false:=by unfold Yo;simp [hs0]
   refine Qw (tl:=[(fb,fb :: lb :: [pb2],({ f with p:=some (x.step s).1 }:Fm).splice m.c f.repl),(fb2,fb2 :: lb2 :: [],Fm.new m.c (x.step s).1.stuck (J1 m.draws))]) h hp hq hpR hqR F hSS (by rw [he,ov];simp) hA' ho k2 (fun k hk=>hk) (by simpa using hF') (by simp) (fun t ht=>?_) (fun t ht k hk=>?_) ?_ (fun k hk=>.inr ?_)
   ·simp only [List.mem_cons,List.not_mem_nil,or_false] at ht
    rcases ht with rfl | rfl
    ·exact ⟨lb,sp,np,bp,some pb2,[pb2],hf',hL',.inr (.inr (.inr (.inr (.inr (.inr ⟨rfl,_,pb2,rfl,rfl,hp',rfl⟩))))),nfl,by simp;omega,by simp;omega,rfl⟩
    ·exact ⟨lb2,none,none,none,none,[],hg',hq',.inl ⟨rfl,rfl,rfl,rfl⟩,s6,by simp,by simp,rfl⟩
   ·simp only [List.mem_cons,List.not_mem_nil,or_false] at ht
    rcases ht with rfl | rfl
    ·simp at hk
     rcases hk with h | h | h
     ·exact .inl (by simp [h])
     ·exact .inl (by simp [h])
     ·exact .inr (by omega)
    ·simp at hk
     rcases hk with h | h <;> exact .inr (by omega)
   ·simp;omega
   ·have:=s7 k hk
    refine ⟨by omega,this.2.1,fun t ht hi=>?_⟩
    simp only [List.mem_cons,List.not_mem_nil,or_false] at ht
    rcases ht with rfl | rfl
    ·simp at hi
     omega
    ·simp at hi
     omega
theorem q0d.new {c:Cf} (chunk:Int) (d:Bool):q0d c (Fm.new c chunk d):=⟨rfl,fun x h=>(by cases h),fun x h=>(by cases h),fun x _ h=>(by cases h),fun x h=>(by cases h)⟩
theorem q0d.splice {c:Cf} {f:Fm} (h:q0d c f) (r:Int):q0d c (f.splice c r):=⟨h.lc,h.s,h.n,fun x e=>by unfold Fm.splice at e;simp at e,fun x e=>by unfold Fm.splice at e;simp only [Option.some.injEq] at e;rw [<- e];rfl⟩
theorem X7.put {N:Nat} {m:Md} (h:X7 N m) (hne:m.f≠[]) (ds:List Int) {g:Fm} (hg:q0d m.c g):X7 (N+1) { m with draws:=ds,f:=m.f.dropLast++[g] }:=by
 refine ⟨h.c,fun y hy=>?_,?_⟩
 ·rcases List.mem_append.1 hy with hy | hy
  ·exact h.f y (List.dropLast_subset _ hy)
  ·rw [List.mem_singleton.1 hy];exact hg
 ·have:=h.len;have:=List.length_pos_iff.2 hne;simp;omega
theorem X7.put2 {N:Nat} {m:Md} (h:X7 N m) (hne:m.f≠[]) {g g2:Fm} (hg:q0d m.c g) (hg2:q0d m.c g2):X7 (N+1) { m with f:=m.f.dropLast++[g,g2] }:=by
 refine ⟨h.c,fun y hy=>?_,?_⟩
 ·rcases List.mem_append.1 hy with hy | hy
  ·exact h.f y (List.dropLast_subset _ hy)
  ·simp only [List.mem_cons,List.not_mem_nil,or_false] at hy
   rcases hy with rfl | rfl
   ·exact hg
   ·exact hg2
 ·have:=h.len;have:=List.length_pos_iff.2 hne;simp;omega
theorem X7.step {N:Nat} {m:Md} (h:X7 N m) (s:St):X7 (N+1) (m.step s).1:=by
 have same:X7 (N+1) m:=⟨h.c,h.f,by have:=h.len;omega⟩
 unfold Md.step
 cases hg:m.f.getLast? with
 | none=>exact same
 | some f =>
  have hfm:f∈m.f:=List.mem_of_getLast? hg
  have hne:m.f≠[]:=List.ne_nil_of_mem hfm
  obtain ⟨q1,q2,q3,q4,q5⟩:=h.f f hfm
  have put:∀ g,q0d m.c g->X7 (N+1) { m with f:=m.f.dropLast++[g] }:=fun g hg=>h.put hne m.draws hg
  simp only
  by_cases p1:f.part=1
  ·rw [qf p1]
   have hlc:(f.l.step s).1.c=m.c:=(q5l f.l s).trans q1
   have hg2:q0d m.c (if (f.l.step s).1.line=0 then { f with l:=(f.l.step s).1,part:=2,s:=some (Sl.new m.c (f.l.step s).1.three.1 (f.l.step s).1.three.2.1) } else { f with l:=(f.l.step s).1 }):=by
    split
    ·exact ⟨hlc,fun x e=>by simp only [Option.some.injEq] at e;rw [<- e];rfl,q3,fun x e=>by simp at e,q5⟩
    ·exact ⟨hlc,q2,q3,q4,q5⟩
   split
   ·exact h.put hne m.draws.tail hg2
   ·exact put _ hg2
  ·rw [qd p1]
   by_cases p2:f.part=2
   ·rw [qf p2]
    cases hs:f.s with
    | none=>exact same
    | some x=>exact put _ ⟨q1,fun y e=>by simp only [Option.some.injEq] at e;rw [<- e];exact (q5y x s).trans (q2 x hs),q3,fun y e=>by simp only at e;split at e <;> omega,q5⟩
   ·rw [qd p2]
    by_cases p3:f.part=3
    ·rw [qf p3]
     refine put _ ?_
     split
     ·exact ⟨q1,q2,q3,fun x e=>by simp at e,q5⟩
     ·exact q0d.splice ⟨q1,q2,q3,q4,q5⟩ _
    ·rw [qd p3]
     by_cases p4:f.part=4
     ·rw [qf p4]
      cases hn:f.n with
      | none=>exact put _ ⟨q1,q2,fun y e=>by simp only [Option.some.injEq] at e;rw [<- e];exact Ry.new h.c,q4,q5⟩
      | some x =>
       have hx:=(q3 x hn).step s
       refine put _ ?_
       split
       ·exact ⟨q1,q2,fun y e=>by simp only [Option.some.injEq] at e;rw [<- e];exact hx,fun y _ e=>by simp only [Option.some.injEq] at e;rw [<- e];exact Ze.new h.c _ _ _ (by have h1:=hx.l;have h2:=hx.t8;omega),q5⟩
       ·exact ⟨q1,q2,fun y e=>by simp only [Option.some.injEq] at e;rw [<- e];exact hx,q4,q5⟩
     ·rw [qd p4]
      by_cases p5:f.part=5
      ·rw [qf p5]
       cases hb:f.b with
       | none=>exact same
       | some x =>
        have hx:=(q4 x p5 hb).step s
        simp only
        by_cases e0:(x.step s).1.line=0
        ·rw [qf e0]
         by_cases e1:(x.step s).1.e=0
         ·rw [qf e1]
          exact put _ ⟨q1,q2,q3,fun y e=>by unfold Fm.splice at e;simp at e,fun y e=>by unfold Fm.splice at e;simp only [Option.some.injEq] at e;rw [<- e];rfl⟩
         ·rw [qd e1]
          exact ⟨h.c,fun y hy=>by simp at hy,by simp⟩
        ·rw [qd e0]
         have hx2:Ze (x.step s).1:=hx.resolve_left e0
         exact put _ ⟨q1,q2,q3,fun y _ e=>by simp only [Option.some.injEq] at e;rw [<- e];exact hx2,q5⟩
      ·rw [qd p5]
       by_cases p6:f.part=6
       ·rw [qf p6]
        cases hp:f.p with
        | none=>exact same
        | some x =>
         simp only
         have hpc:∀ y:Sp,some (x.step s).1=some y->y.c=m.c:=fun y e=>by simp only [Option.some.injEq] at e;rw [<- e];exact (q6c x s).trans (q5 x hp)
         by_cases e0:(x.step s).1.line=0
         ·rw [qf e0]
          by_cases e1:(x.step s).1.stuck=0
          ·rw [qf e1]
           exact ⟨h.c,fun y hy=>h.f y (List.dropLast_subset _ hy),by have:=h.len;simp;omega⟩
          ·rw [qd e1]
           exact h.put2 hne (q0d.splice (f:={ f with p:=some (x.step s).1 }) ⟨q1,q2,q3,fun y e=>absurd e p5,hpc⟩ _) (q0d.new _ _)
         ·rw [qd e0]
          exact put _ ⟨q1,q2,q3,fun y e=>absurd e p5,hpc⟩
       ·rw [qd p6];exact same
theorem X7.new {c:Cf} (hc:c.Ok) (chunk:Int) (ds:List Int):X7 1 (Md.new c chunk ds):=⟨hc,fun g hg=>by unfold Md.new at hg;rw [List.mem_singleton.1 hg];exact q0d.new _ _,by simp [Md.new]⟩
theorem Jc (c:Cf) (hc:c.Ok) (chunk:Int) (ds:List Int) (dv:Value) (R:List Nat) (w:World) (hD:Sq fI w dv ds) (hdR:∀ k,k∈dv.ownBlock.toList->k∈R) (hR:∀ k,k∈R->k<w.heap.size) :
  Calls Tryz.prog 164 #[c.val,.int .i64 chunk,dv] w fun e w'=>∃ b B,e = .returned (.pointer (some ⟨b,0,none⟩))/\Tt w' R B b (Md.new c chunk ds)/\(∀ k,k∈B->w.heap.size<=k)/\Fr [] w w':=by
 obtain ⟨av,cv,rfl,hcv,hmv,-⟩:=id hD
 unfold Cf.val
 have F0:=(Fr.refl [] w).alloc (.cells #[.int .i64 c.t,.int .i64 c.c,.int .i64 c.wd,.int .i64 c.v] 23)
 obtain ⟨c0,c1,c2,c3⟩:=Pl.yf (Go.heap_alloc_new w (.cells #[.int .i64 c.t,.int .i64 c.c,.int .i64 c.wd,.int .i64 c.v] 23))
 go_enter Tryz.func164,Tryz.ntmps164
 go_wp2_with fail
 have ho:Z1 _ (w.heap.size+1) ⟨c,ds,[],0⟩ (.slice av ds.length cv) (.slice none 0 0):=Ob.newAt (Vg w (.cells #[.int .i64 c.t,.int .i64 c.c,.int .i64 c.wd,.int .i64 c.v] 23)) _ _
 have F1:=F0.alloc (.cells (MdC ⟨c,ds,[],0⟩ (.slice av ds.length cv) (.slice none 0 0)) 211)
 have hD1:=hD.up F1
 refine (Kw ⟨c,ds,[],0⟩ hc chunk (w.heap.size+1) _ _ [] _ ho hD1 (Sq.nil _) (by simp)).mono ?_
 rintro e w2 ⟨rfl,⟨fv',fb,lb,h2,F2v,g2,q2,s1,s2,s3,s4⟩,F2⟩
 have hs:=F1.size
 have hbl:=Ob.lt ho
 have D2:Fr [] w w2:=F1.own F2 (fun i hi=>by simp at hi;omega)
 have hD2:=hD.up D2
 go_wp2_with fail
 go_ret
 simp only [List.nil_append] at F2v
 have hRl:∀ k,k∈R->k<w.heap.size:=hR
 refine ⟨_,_,rfl,⟨_,fv',[(fb,fb :: lb :: [],Fm.new c chunk (J1 ds))],⟨h2,hD2,hdR,F2v,rfl,fun t ht=>?_,fun hi=>?_,fun t ht=>?_,by simp,fun k hk=>(s4 k hk).2.1,fun k hk=>?_⟩,rfl⟩,fun k hk=>?_,D2⟩
 ·rw [List.mem_singleton.1 ht]
  exact ⟨lb,none,none,none,none,[],g2,q2,.inl ⟨rfl,rfl,rfl,rfl⟩,s3,by simp,by simp,rfl⟩
 ·have:=(s4 _ hi).1;omega
 ·rw [List.mem_singleton.1 ht]
  refine ⟨by simp;omega,fun k hk hv=>?_⟩
  have:=s4 k hv
  simp at hk
  rcases hk with e | e
  ·exact this.2.2.1 e
  ·exact this.2.2.2 e
 ·have:=hRl k hk
  refine ⟨qj this D2.size,by omega,fun hv=>by have:=(s4 k hv).1;omega,fun t ht hi=>?_⟩
  rw [List.mem_singleton.1 ht] at hi
  simp at hi
  omega
 ·rcases vz.1 hk with rfl | hk | ⟨t,ht,hk⟩
  ·omega
  ·have:=(s4 k hk).1;omega
  ·rw [List.mem_singleton.1 ht] at hk
   simp at hk
   omega
def PtC (x:Pt) (dv:Value) (wp xp mp:Option Nat):Array Value:=#[.int .i64 x.c.t,.int .i64 x.c.c,.int .i64 x.c.wd,.int .i64 x.c.v,.int .i64 x.key,.int .i64 x.data,dv,xw wp,xw xp,xw mp,.bool x.over,.int .i64 x.version,.int .i64 x.e,.bool x.placed]
def Vb (w:World) (b:Nat) (x:Pt) (dv:Value) (wp xp mp:Option Nat):Prop:=Ob w b 190 (PtC x dv wp xp mp)
theorem zn {w:World} {b:Nat} {x:Pt} {dv:Value} {wp xp mp:Option Nat} (h:Vb w b x dv wp xp mp):w.cell? ⟨b,0,none⟩=some (.int .i64 x.c.t)/\w.cell? ⟨b,1,none⟩=some (.int .i64 x.c.c)/\w.cell? ⟨b,2,none⟩=some (.int .i64 x.c.wd)/\w.cell? ⟨b,3,none⟩=some (.int .i64 x.c.v)/\w.cell? ⟨b,4,none⟩=some (.int .i64 x.key)/\w.cell? ⟨b,5,none⟩=some (.int .i64 x.data)/\w.cell? ⟨b,6,none⟩=some dv/\w.cell? ⟨b,7,none⟩=some (xw wp)/\w.cell? ⟨b,8,none⟩=some (xw xp)/\w.cell? ⟨b,9,none⟩=some (xw mp)/\w.cell? ⟨b,10,none⟩=some (.bool x.over)/\w.cell? ⟨b,11,none⟩=some (.int .i64 x.version)/\w.cell? ⟨b,12,none⟩=some (.int .i64 x.e)/\w.cell? ⟨b,13,none⟩=some (.bool x.placed) :=
 ⟨h.cell rfl,h.cell rfl,h.cell rfl,h.cell rfl,h.cell rfl,h.cell rfl,h.cell rfl,h.cell rfl,h.cell rfl,h.cell rfl,h.cell rfl,h.cell rfl,h.cell rfl,h.cell rfl⟩
theorem q3c {w:World} {R B:List Nat} {b:Nat} {m:Md} (h:Tt w R B b m):∃ dv,w.cell? ⟨b,4,none⟩=some dv/\w.cell? ⟨b,6,none⟩=some (.int .i64 m.e)/\Sq fI w dv m.draws/\∀ k,k∈dv.ownBlock.toList->k∈R:=by
 obtain ⟨dv,fv,fr,h,-⟩:=h
 exact ⟨dv,h.o.cell rfl,h.o.cell rfl,h.d,h.dr⟩
theorem put_w (x:Pt) (hc:x.c.Ok) (hw9:x.w.c=x.c/\x.w.key=x.key) (hk:0<=x.key/\x.key<=63) (ho:x.over=false) (b wb p q:Nat) (dv:Value) (s:St) (w:World) (h:Vb w b x dv (some wb) none none) (hW:Qy w wb x.w) (hA:Rar w p q s) (nbw:¬ b=wb) (nbp:¬ b=p) (nbq:¬ b=q) (nwp:wb≠p) (nwq:wb≠q) :
  Calls Tryz.prog 127 #[.pointer (some ⟨b,0,none⟩),.pointer (some ⟨p,0,none⟩)] w fun e w'=>e = .returned (.bool false)/\Qy w' wb (x.w.step s).1/\Rar w' p q (x.w.step s).2 /\
   (((x.w.step s).1.line=0/\∃ xb,w.heap.size<=xb/\Vb w' b { x with placed:=false } dv (some wb) (some xb) none/\Zu w' xb (Cl.new x.c (x.w.step s).1.at_ x.key x.data))\/((x.w.step s).1.line≠0/\Vb w' b { x with placed:=false } dv (some wb) none none))/\Fr [b,wb,p,q] w w':=by
 generalize hy:x.w.step s=y
 have HY:=q9 hy
 clear hy
 obtain ⟨y1,y2⟩:=y
 obtain ⟨c0,c1,c2,c3,c4,c5,c6,c7,c8,c9,c10,c11,c12,c13⟩:=zn h
 rw [ho] at c10
 have HO:=q9 ho
 clear ho
 unfold xw at c7 c8 c9
 simp only at c7 c8 c9
 have z:=h.frozen
 go_enter Tryz.func127,Tryz.ntmps127
 go_wp2_with fail
 have h1:Vb _ b { x with placed:=false } dv (some wb) none none:=Ob.set h (i:=13) (.bool false)
 have W1:Qy _ wb x.w:=Ob.other hW (Ne.symm nbw) (i:=13) (.bool false)
 have A1:=Rar.set hA nbp nbq (i:=13) (.bool false)
 have D1:Fr [b,wb,p,q] w (w.setCell ⟨b,13,none⟩ (.bool false)):=Fr.setCell _ (by simp)
 clear c0 c1 c2 c3 c4 c5 c6 c7 c8 c9 c10 c11 c12 c13 z h hW hA
 generalize (w.setCell ⟨b,13,none⟩ (.bool false))=w1 at *
 refine (Js x.w (by rw [hw9.1];exact hc) (by rw [hw9.2];exact hk) wb p q s w1 W1 A1 nwp nwq).mono ?_;rintro e w2 ⟨rfl,W2,A2,F2⟩
 have h2:=Ob.kept h1 F2 (by simp;exact ⟨nbw,nbp,nbq⟩)
 have D2:Fr [b,wb,p,q] w w2:=D1.trans (F2.mono)
 rw [HY.out] at W2 A2 ⊢
 simp only at W2 A2 ⊢
 clear h1 W1 A1 D1 F2
 by_cases hl0:y1.line=0
 ·have g0:decide (y1.line=0)=true:=by simpa using hl0
  rw [g0]
  have HL0:=q9 hl0
  clear hl0 g0
  go_wp2_with fail
  refine qo (by kernel_rfl) ?_
  refine z6 [] w2 #[true,true,true,true,true,true,true,true,true,true,true,true,true,true,true,true,true,true,true,true,true,false,false,false] 21 3 rfl ?_
  refine lpq [true,true,true,true,true,true,true,true,true,true,true,true,true,true,true,true,true,true,true,true,false,false,false,false] 1 ((Fr.refl _ _).drew) ?_
  apply qg
  refine ⟨fun wf Ff=>?_,?_⟩
  ·obtain ⟨c0,c1,c2,c3,c4,c5,c6,c7,c8,c9,c10,c11,c12,c13⟩:=zn (Ob.up h2 Ff)
   unfold xw at c7 c8 c9
   simp only at c7 c8 c9
   have y9:=(xd (Ob.up W2 Ff)).2.2.2.2.2.2.2.2.2
   have j0:=qb c0
   have j1:=qb c1
   have j2:=qb c2
   have j3:=qb c3
   have j4:=qb c4
   have j5:=qb c5
   have j7:=qb c7
   have j9:=qb y9
   clear c0 c1 c2 c3 c4 c5 c6 c7 c8 c9 c10 c11 c12 c13 y9
   simp only [sel]
   repeat (go_big_quiet_step (fail))
   exact wpQuiet_nil rfl
  refine loq 20 (fun w3 F3=>?_)
  have E:=((Fr.refl [] w2).drew.trans F3)
  clear F3
  go_wp2_with fail
  refine (Rl x.c y1.at_ x.key x.data w3).mono ?_;rintro e w4 ⟨xb,rfl,hxb,X4,F4⟩
  have hE:=E.size
  replace E:=E.trans F4
  clear F4
  go_wp2_with fail
  refine ql ⟨E,?_⟩
  refine qx (k:=21) rfl (by kernel_rfl) (fun w5 F5=>?_)
  replace E:=E.trans F5
  have X5:=Ob.up X4 F5
  have h5:=Ob.up h2 E
  have W5:=Ob.up W2 E
  have A5:=A2.kept E
  have D5:=D2.then E
  have HXB:=q9 (qh D2.size (qh hE hxb))
  have nbx:¬ b=xb:=by have:=Ob.lt h2;omega
  clear h2 W2 A2 D2 E F5 X4 hxb hE
  obtain ⟨c0,c1,c2,c3,c4,c5,c6,c7,c8,c9,c10,c11,c12,c13⟩:=zn h5
  have z:=h5.frozen
  go_wp2_with fail
  go_ret
  exact ⟨Eq.trans (b:=.returned (.bool x.over)) rfl (by rw [HO.out]),Ob.other W5 (Ne.symm nbw) _,Rar.set A5 nbp nbq _,.inl ⟨HL0.out,xb,HXB.out,Ob.set h5 _,Ob.other X5 (Ne.symm nbx) _⟩,D5.trans (Fr.setCell _ (by simp))⟩
 ·have g0:decide (y1.line=0)=false:=by simpa using hl0
  rw [g0]
  have HL0:=q9 hl0
  clear hl0 g0
  obtain ⟨c0,c1,c2,c3,c4,c5,c6,c7,c8,c9,c10,c11,c12,c13⟩:=zn h2
  go_wp2_with fail
  go_ret
  exact ⟨Eq.trans (b:=.returned (.bool x.over)) rfl (by rw [HO.out]),W2,A2,.inr ⟨HL0.out,h2⟩,D2⟩
def AftX (w w':World) (R:List Nat) (b xb:Nat) (x:Pt) (dv:Value) (wp:Option Nat) (y:Cl) (pl:Bool) (e:Ending):Prop :=
 (y.line≠0/\e = .returned (.bool false)/\Vb w' b { x with placed:=pl } dv wp (some xb) none) \/
 (y.line=0/\0<=y.version/\e = .returned (.bool true)/\Vb w' b { x with placed:=pl,version:=y.version,over:=true } dv wp (some xb) none) \/
 (y.line=0/\y.version<0/\e = .returned (.bool false)/\∃ mb B,Vb w' b { x with placed:=pl } dv wp (some xb) (some mb)/\Tt w' R B mb (Md.new x.c y.chunk x.draws)/\∀ k,k∈B->w.heap.size<=k)
theorem put_x (x:Pt) (hc:x.c.Ok) (cl:Cl) (hcl:cl.c.Ok) (ho:x.over=false) (b xb p q:Nat) (dv:Value) (wp:Option Nat) (R:List Nat) (s:St) (w:World) (h:Vb w b x dv wp (some xb) none) (hX:Zu w xb cl) (hA:Rar w p q s) (hD:Sq fI w dv x.draws) (hdR:∀ k,k∈dv.ownBlock.toList->k∈R) (hR:∀ k,k∈R->k<w.heap.size) (nR:b∉R/\xb∉R/\p∉R/\q∉R) (nbx:¬ b=xb) (nbp:¬ b=p) (nbq:¬ b=q) (nxp:xb≠p) (nxq:xb≠q) :
  Calls Tryz.prog 127 #[.pointer (some ⟨b,0,none⟩),.pointer (some ⟨p,0,none⟩)] w fun e w'=>AftX w w' R b xb x dv wp (cl.step s).1 (decide (cl.i<0) && decide (0<=(cl.step s).1.i)) e/\Zu w' xb (cl.step s).1/\Rar w' p q (cl.step s).2/\Fr [b,xb,p,q] w w':=by
 generalize hy:cl.step s=y
 have HY:=q9 hy
 clear hy
 obtain ⟨y1,y2⟩:=y
 simp only
 have HD:=q9 (fun W (F:Fr [b,xb,p,q] w W)=>hD.kept F (fun k hk hi=>by simp only [List.mem_cons,List.not_mem_nil,or_false] at hi;rcases hi with rfl | rfl | rfl | rfl;exact nR.1 (hdR _ hk);exact nR.2.1 (hdR _ hk);exact nR.2.2.1 (hdR _ hk);exact nR.2.2.2 (hdR _ hk)))
 clear hD
 generalize hpl:(decide (cl.i<0) && decide (0<=y1.i))=pl
 have HPL0:=q9 hpl
 clear hpl
 obtain ⟨c0,c1,c2,c3,c4,c5,c6,c7,c8,c9,c10,c11,c12,c13⟩:=zn h
 rw [ho] at c10
 have HO:=q9 ho
 clear ho
 unfold xw at c8 c9
 simp only at c8 c9
 obtain ⟨-,-,-,-,u4,-,-,-,u8,-,u10⟩:=zu hX
 have z:=h.frozen
 by_cases hi0:cl.i<0
 focus
  have gi:decide (cl.i<0)=true:=by simpa using hi0
  by_cases hj0:0<=y1.i
  ·have gj:decide (y1.i≥0)=true:=by simpa using hj0
   have HPL:=q9 (show pl=true by rw [<- HPL0.out];simp [hi0,hj0])
   clear hi0 hj0
   go_enter Tryz.func127,Tryz.ntmps127
   go_wp2_with fail
   have h1:Vb _ b { x with placed:=false } dv wp (some xb) none:=Ob.set h (i:=13) (.bool false)
   have X1:Zu _ xb cl:=Ob.other hX (Ne.symm nbx) (i:=13) (.bool false)
   have A1:=Rar.set hA nbp nbq (i:=13) (.bool false)
   have D1:Fr [b,xb,p,q] w (w.setCell ⟨b,13,none⟩ (.bool false)):=Fr.setCell _ (by simp)
   clear c0 c1 c2 c3 c4 c5 c6 c7 c8 c9 c10 c11 c12 c13 z h hX hA u4 u8 u10
   generalize (w.setCell ⟨b,13,none⟩ (.bool false))=w1 at *
   refine (R6 cl hcl xb p q s w1 X1 A1 nxp nxq).mono ?_;rintro e w2 ⟨rfl,X2,A2,F2⟩
   have h2:=Ob.kept h1 F2 (by simp;exact ⟨nbx,nbp,nbq⟩)
   have D2:Fr [b,xb,p,q] w w2:=D1.trans (F2.mono)
   rw [HY.out] at X2 A2 ⊢
   simp only at X2 A2 ⊢
   clear h1 X1 A1 D1 F2
   by_cases hl0:y1.line=0
   ·have g0:decide (y1.line=0)=true:=by simpa using hl0
    rw [g0]
    have HL0:=q9 hl0
    clear hl0 g0
    obtain ⟨c0,c1,c2,c3,c4,c5,c6,c7,c8,c9,c10,c11,c12,c13⟩:=zn h2
    unfold xw at c8
    simp only at c8
    obtain ⟨-,-,-,-,u4,-,-,-,u8,-,u10⟩:=zu X2
    have z:=h2.frozen
    by_cases hv0:0<=y1.version
    ·have gv:decide (y1.version≥0)=true:=by simpa using hv0
     have HV0:=q9 hv0
     clear hv0
     go_wp2_with fail
     go_ret
     exact ⟨by rw [HPL.out];exact .inr (.inl ⟨HL0.out,HV0.out,rfl,(Ob.set (Ob.set (Ob.set h2 _) (i:=10) (.bool true)) (i:=13) (.bool true))⟩),Ob.other (Ob.other (Ob.other X2 (Ne.symm nbx) _) (Ne.symm nbx) _) (Ne.symm nbx) _,Rar.set (Rar.set (Rar.set A2 nbp nbq _) nbp nbq (i:=10) (.bool true)) nbp nbq (i:=13) (.bool true),((D2.trans (Fr.setCell _ (by simp))).setCell' _ (by simp)).trans (Fr.setCell _ (by simp))⟩
    have gv:decide (y1.version≥0)=false:=by simpa using hv0
    have HV0:=q9 hv0
    clear hv0
    go_wp2_with fail
    clear c0 c1 c2 c3 c4 c5 c6 c7 c8 c9 c10 c11 c12 c13 z u4 u8 u10 gv
    refine qo (by kernel_rfl) ?_
    refine z6 [] w2 #[true,true,true,true,true,true,true,true,true,true,true,true,true,true,true,true,true,false,false,false] 17 3 rfl ?_
    refine lpq [true,true,true,true,true,true,true,true,true,true,true,true,true,true,true,true,false,false,false,false] 1 ((Fr.refl _ _).drew) ?_
    apply qg
    refine ⟨fun wf Ff=>?_,?_⟩
    ·obtain ⟨c0,c1,c2,c3,c4,c5,c6,c7,c8,c9,c10,c11,c12,c13⟩:=zn (Ob.up h2 Ff)
     unfold xw at c8
     simp only at c8
     obtain ⟨-,-,-,-,u4,-,-,-,u8,-,u10⟩:=zu (Ob.up X2 Ff)
     have j0:=qb c0
     have j1:=qb c1
     have j2:=qb c2
     have j3:=qb c3
     have j6:=qb c6
     have j8:=qb c8
     have k4:=qb u4
     clear c0 c1 c2 c3 c4 c5 c6 c7 c8 c9 c10 c11 c12 c13 u4 u8 u10
     simp only [sel]
     repeat (go_big_quiet_step (fail))
     exact wpQuiet_nil rfl
    refine loq 16 (fun w3 F3=>?_)
    have E:=((Fr.refl [] w2).drew.trans F3)
    clear F3
    go_wp2_with fail
    refine (Jc x.c hc y1.chunk x.draws dv R w3 (HD.out _ (D2.then E)) hdR (fun k hk=>qj (hR k hk) (qh D2.size E.size))).mono ?_;rintro e w4 ⟨mb,B,rfl,M4,hB,F4⟩
    have hE:=E.size
    replace E:=E.trans F4
    clear F4
    go_wp2_with fail
    refine ql ⟨E,?_⟩
    refine qx (k:=17) rfl (by kernel_rfl) (fun w5 F5=>?_)
    replace E:=E.trans F5
    have M5:=M4.kept F5 (by simp) (by simp)
    have h5:=Ob.up h2 E
    have X5:=Ob.up X2 E
    have A5:=A2.kept E
    have D5:=D2.then E
    have HB:=q9 (fun k hk=>qh D2.size (qh hE (hB k hk)))
    have nbB:b∉B:=fun hi=>by have:=hB b hi;have:=Ob.lt h2;omega
    clear h2 X2 A2 D2 E F5 M4 hB hE
    obtain ⟨c0,c1,c2,c3,c4,c5,c6,c7,c8,c9,c10,c11,c12,c13⟩:=zn h5
    unfold xw at c8
    simp only at c8
    obtain ⟨-,-,-,-,u4,-,-,-,u8,-,u10⟩:=zu X5
    have z:=h5.frozen
    have HM5:=q9 M5
    clear M5
    go_wp2_with fail
    go_ret
    have SF:Fr [b] w5 ((w5.setCell ⟨b,9,none⟩ (.pointer (some ⟨mb,0,none⟩))).setCell ⟨b,13,none⟩ (.bool true)):=(Fr.setCell _ (by simp)).setCell' _ (by simp)
    exact ⟨by rw [HPL.out];exact .inr (.inr ⟨HL0.out,by have:=HV0.out;omega,Eq.trans (b:=.returned (.bool x.over)) rfl (by rw [HO.out]),mb,B,Ob.set (Ob.set h5 _) (i:=13) (.bool true),HM5.out.kept SF (fun k hk hi=>by simp at hi;subst hi;exact nbB hk) (fun k hk hi=>by simp at hi;subst hi;exact nR.1 hk),HB.out⟩),Ob.other (Ob.other X5 (Ne.symm nbx) _) (Ne.symm nbx) _,Rar.set (Rar.set A5 nbp nbq _) nbp nbq (i:=13) (.bool true),D5.trans (SF.mono)⟩
   have g0:decide (y1.line=0)=false:=by simpa using hl0
   rw [g0]
   have HL0:=q9 hl0
   clear hl0 g0
   obtain ⟨c0,c1,c2,c3,c4,c5,c6,c7,c8,c9,c10,c11,c12,c13⟩:=zn h2
   unfold xw at c8
   simp only at c8
   obtain ⟨-,-,-,-,u4,-,-,-,u8,-,u10⟩:=zu X2
   have z:=h2.frozen
   go_wp2_with fail
   go_ret
   exact ⟨by rw [HPL.out];exact .inl ⟨HL0.out,Eq.trans (b:=.returned (.bool x.over)) rfl (by rw [HO.out]),(Ob.set h2 _)⟩,Ob.other X2 (Ne.symm nbx) _,Rar.set A2 nbp nbq _,D2.trans (Fr.setCell _ (by simp))⟩
  have gj:decide (y1.i≥0)=false:=by simpa using hj0
  have HPL:=q9 (show pl=false by rw [<- HPL0.out];simp [hj0])
  clear hi0 hj0
 rotate_left
 focus
  have gi:decide (cl.i<0)=false:=by simpa using hi0
  have HPL:=q9 (show pl=false by rw [<- HPL0.out];simp [hi0])
  clear hi0
 rotate_left
 all_goals
  go_enter Tryz.func127,Tryz.ntmps127
  go_wp2_with fail
  have h1:Vb _ b { x with placed:=false } dv wp (some xb) none:=Ob.set h (i:=13) (.bool false)
  have X1:Zu _ xb cl:=Ob.other hX (Ne.symm nbx) (i:=13) (.bool false)
  have A1:=Rar.set hA nbp nbq (i:=13) (.bool false)
  have D1:Fr [b,xb,p,q] w (w.setCell ⟨b,13,none⟩ (.bool false)):=Fr.setCell _ (by simp)
  clear c0 c1 c2 c3 c4 c5 c6 c7 c8 c9 c10 c11 c12 c13 z h hX hA u4 u8 u10
  generalize (w.setCell ⟨b,13,none⟩ (.bool false))=w1 at *
  refine (R6 cl hcl xb p q s w1 X1 A1 nxp nxq).mono ?_;rintro e w2 ⟨rfl,X2,A2,F2⟩
  have h2:=Ob.kept h1 F2 (by simp;exact ⟨nbx,nbp,nbq⟩)
  have D2:Fr [b,xb,p,q] w w2:=D1.trans (F2.mono)
  rw [HY.out] at X2 A2 ⊢
  simp only at X2 A2 ⊢
  clear h1 X1 A1 D1 F2
  by_cases hl0:y1.line=0
  ·have g0:decide (y1.line=0)=true:=by simpa using hl0
   rw [g0]
   have HL0:=q9 hl0
   clear hl0 g0
   obtain ⟨c0,c1,c2,c3,c4,c5,c6,c7,c8,c9,c10,c11,c12,c13⟩:=zn h2
   unfold xw at c8
   simp only at c8
   obtain ⟨-,-,-,-,u4,-,-,-,u8,-,u10⟩:=zu X2
   have z:=h2.frozen
   by_cases hv0:0<=y1.version
   ·have gv:decide (y1.version≥0)=true:=by simpa using hv0
    have HV0:=q9 hv0
    clear hv0
    go_wp2_with fail
    go_ret
    exact ⟨by rw [HPL.out];exact .inr (.inl ⟨HL0.out,HV0.out,rfl,(Ob.set (Ob.set (Ob.set h2 _) (i:=10) (.bool true)) (i:=13) (.bool false))⟩),Ob.other (Ob.other (Ob.other X2 (Ne.symm nbx) _) (Ne.symm nbx) _) (Ne.symm nbx) _,Rar.set (Rar.set (Rar.set A2 nbp nbq _) nbp nbq (i:=10) (.bool true)) nbp nbq (i:=13) (.bool false),((D2.trans (Fr.setCell _ (by simp))).setCell' _ (by simp)).trans (Fr.setCell _ (by simp))⟩
   have gv:decide (y1.version≥0)=false:=by simpa using hv0
   have HV0:=q9 hv0
   clear hv0
   go_wp2_with fail
   clear c0 c1 c2 c3 c4 c5 c6 c7 c8 c9 c10 c11 c12 c13 z u4 u8 u10 gv
   refine qo (by kernel_rfl) ?_
   refine z6 [] w2 #[true,true,true,true,true,true,true,true,true,true,true,true,true,true,true,true,true,false,false,false] 17 3 rfl ?_
   refine lpq [true,true,true,true,true,true,true,true,true,true,true,true,true,true,true,true,false,false,false,false] 1 ((Fr.refl _ _).drew) ?_
   apply qg
   refine ⟨fun wf Ff=>?_,?_⟩
   ·obtain ⟨c0,c1,c2,c3,c4,c5,c6,c7,c8,c9,c10,c11,c12,c13⟩:=zn (Ob.up h2 Ff)
    unfold xw at c8
    simp only at c8
    obtain ⟨-,-,-,-,u4,-,-,-,u8,-,u10⟩:=zu (Ob.up X2 Ff)
    have j0:=qb c0
    have j1:=qb c1
    have j2:=qb c2
    have j3:=qb c3
    have j6:=qb c6
    have j8:=qb c8
    have k4:=qb u4
    clear c0 c1 c2 c3 c4 c5 c6 c7 c8 c9 c10 c11 c12 c13 u4 u8 u10
    simp only [sel]
    repeat (go_big_quiet_step (fail))
    exact wpQuiet_nil rfl
   refine loq 16 (fun w3 F3=>?_)
   have E:=((Fr.refl [] w2).drew.trans F3)
   clear F3
   go_wp2_with fail
   refine (Jc x.c hc y1.chunk x.draws dv R w3 (HD.out _ (D2.then E)) hdR (fun k hk=>qj (hR k hk) (qh D2.size E.size))).mono ?_;rintro e w4 ⟨mb,B,rfl,M4,hB,F4⟩
   have hE:=E.size
   replace E:=E.trans F4
   clear F4
   go_wp2_with fail
   refine ql ⟨E,?_⟩
   refine qx (k:=17) rfl (by kernel_rfl) (fun w5 F5=>?_)
   replace E:=E.trans F5
   have M5:=M4.kept F5 (by simp) (by simp)
   have h5:=Ob.up h2 E
   have X5:=Ob.up X2 E
   have A5:=A2.kept E
   have D5:=D2.then E
   have HB:=q9 (fun k hk=>qh D2.size (qh hE (hB k hk)))
   have nbB:b∉B:=fun hi=>by have:=hB b hi;have:=Ob.lt h2;omega
   clear h2 X2 A2 D2 E F5 M4 hB hE
   obtain ⟨c0,c1,c2,c3,c4,c5,c6,c7,c8,c9,c10,c11,c12,c13⟩:=zn h5
   unfold xw at c8
   simp only at c8
   obtain ⟨-,-,-,-,u4,-,-,-,u8,-,u10⟩:=zu X5
   have z:=h5.frozen
   have HM5:=q9 M5
   clear M5
   go_wp2_with fail
   go_ret
   have SF:Fr [b] w5 ((w5.setCell ⟨b,9,none⟩ (.pointer (some ⟨mb,0,none⟩))).setCell ⟨b,13,none⟩ (.bool false)):=(Fr.setCell _ (by simp)).setCell' _ (by simp)
   exact ⟨by rw [HPL.out];exact .inr (.inr ⟨HL0.out,by have:=HV0.out;omega,Eq.trans (b:=.returned (.bool x.over)) rfl (by rw [HO.out]),mb,B,Ob.set (Ob.set h5 _) (i:=13) (.bool false),HM5.out.kept SF (fun k hk hi=>by simp at hi;subst hi;exact nbB hk) (fun k hk hi=>by simp at hi;subst hi;exact nR.1 hk),HB.out⟩),Ob.other (Ob.other X5 (Ne.symm nbx) _) (Ne.symm nbx) _,Rar.set (Rar.set A5 nbp nbq _) nbp nbq (i:=13) (.bool false),D5.trans (SF.mono)⟩
  have g0:decide (y1.line=0)=false:=by simpa using hl0
  rw [g0]
  have HL0:=q9 hl0
  clear hl0 g0
  obtain ⟨c0,c1,c2,c3,c4,c5,c6,c7,c8,c9,c10,c11,c12,c13⟩:=zn h2
  unfold xw at c8
  simp only at c8
  obtain ⟨-,-,-,-,u4,-,-,-,u8,-,u10⟩:=zu X2
  have z:=h2.frozen
  go_wp2_with fail
  go_ret
  exact ⟨by rw [HPL.out];exact .inl ⟨HL0.out,Eq.trans (b:=.returned (.bool x.over)) rfl (by rw [HO.out]),(Ob.set h2 _)⟩,Ob.other X2 (Ne.symm nbx) _,Rar.set A2 nbp nbq _,D2.trans (Fr.setCell _ (by simp))⟩
def Cm (w4:World) (b mb:Nat) (e:Int) (w':World):Prop:=w'.cell? ⟨b,9,none⟩=some (.pointer (some ⟨mb,0,none⟩))/\w'.cell? ⟨mb,6,none⟩=some (.int .i64 e)/\Fr [b] w4 w'
theorem Cm.up {w4:World} {b mb:Nat} {e:Int}:∀ w w2,Cm w4 b mb e w->Fr [] w w2->Cm w4 b mb e w2:=fun w w2 h f=>⟨f.cell h.1 (by simp),f.cell h.2.1 (by simp),h.2.2.then f⟩
def AftM (w w':World) (R:List Nat) (b mb:Nat) (x:Pt) (wp xp:Option Nat) (Bm:List Nat) (y:Md) (e:Ending):Prop :=
 (y.f≠[]/\e = .returned (.bool false)/\∃ dv' B',Vb w' b { x with placed:=false } dv' wp xp (some mb)/\Sq fI w' dv' y.draws/\(∀ k,k∈dv'.ownBlock.toList->k∈R)/\Tt w' R B' mb y/\∀ k,k∈B'->k∈Bm\/w.heap.size<=k) \/
 (y.f=[]/\e = .returned (.bool (decide (y.e≠0)))/\∃ dv' wb,Vb w' b { x with placed:=false,e:=y.e,over:=decide (y.e≠0) } dv' (some wb) none none/\Sq fI w' dv' y.draws/\(∀ k,k∈dv'.ownBlock.toList->k∈R)/\w.heap.size<=wb/\Qy w' wb (Wk.new x.c x.key))
theorem put_m (N:Nat) (hN:N<=90000) (x:Pt) (mm:Md) (hm:X7 N mm) (hne:mm.f≠[]) (ho:x.over=false) (b mb p q:Nat) (dv:Value) (wp xp:Option Nat) (R Bm:List Nat) (s:St) (w:World) (h:Vb w b x dv wp xp (some mb)) (hM:Tt w R Bm mb mm) (hA:Rar w p q s) (nB:b∉Bm/\p∉Bm/\q∉Bm) (nR:b∉R/\p∉R/\q∉R) (nbp:¬ b=p) (nbq:¬ b=q) (nbm:¬ b=mb) :
  Calls Tryz.prog 127 #[.pointer (some ⟨b,0,none⟩),.pointer (some ⟨p,0,none⟩)] w fun e w'=>AftM w w' R b mb x wp xp Bm (mm.step s).1 e/\Rar w' p q (mm.step s).2/\Fr (b :: p :: q :: Bm) w w':=by
 generalize hy:mm.step s=y
 have HY:=q9 hy
 clear hy
 obtain ⟨y1,y2⟩:=y
 simp only
 obtain ⟨c0,c1,c2,c3,c4,c5,c6,c7,c8,c9,c10,c11,c12,c13⟩:=zn h
 rw [ho] at c10
 have HO:=q9 ho
 clear ho
 unfold xw at c9
 simp only at c9
 have z:=h.frozen
 go_enter Tryz.func127,Tryz.ntmps127
 go_wp2_with fail
 have h1:Vb _ b { x with placed:=false } dv wp xp (some mb):=Ob.set h (i:=13) (.bool false)
 have SF:Fr [b] w (w.setCell ⟨b,13,none⟩ (.bool false)):=Fr.setCell _ (by simp)
 have M1:=hM.kept SF (fun k hk hi=>by simp at hi;subst hi;exact nB.1 hk) (fun k hk hi=>by simp at hi;subst hi;exact nR.1 hk)
 have A1:=Rar.set hA nbp nbq (i:=13) (.bool false)
 have D1:Fr (b :: p :: q :: Bm) w (w.setCell ⟨b,13,none⟩ (.bool false)):=SF.mono
 clear c0 c1 c2 c3 c4 c5 c6 c7 c8 c9 c10 c11 c12 c13 z h hM hA SF
 generalize (w.setCell ⟨b,13,none⟩ (.bool false))=w1 at *
 refine (qb8 N hN mm hm hne R Bm mb p q s w1 M1 A1 nB.2.1 nB.2.2 nR.2.1 nR.2.2).mono ?_;rintro e w2 ⟨rfl,⟨B',M2,hB2⟩,A2,F2⟩
 have h2:Vb w2 b { x with placed:=false } dv wp xp (some mb):=Ob.kept h1 F2 (by simp;exact ⟨nbp,nbq,nB.1⟩)
 have D2:Fr (b :: p :: q :: Bm) w w2:=D1.trans (F2.mono (by intro k hk;simp at hk ⊢;rcases hk with h | h | h <;> simp [h]))
 have HB2:=q9 (fun k hk=>(hB2 k hk).imp id (fun e=>qh D1.size e))
 rw [HY.out] at M2 A2 ⊢
 simp only at M2 A2 ⊢
 have nB':b∉B':=fun hi=>by rcases hB2 b hi with e | e;exact nB.1 e;have:=Ob.lt h1;omega
 clear h1 M1 A1 D1 F2 hB2
 obtain ⟨dv',m4,m6,S2,R2⟩:=q3c M2
 obtain ⟨ad,cd,rfl,-,-,-⟩:=id S2
 obtain ⟨c0,c1,c2,c3,c4,c5,c6,c7,c8,c9,c10,c11,c12,c13⟩:=zn h2
 unfold xw at c9
 simp only at c9
 have z:=h2.frozen
 have HM:=q9 (qc M2 (qc S2 R2))
 clear M2 S2 R2
 have nbd:b∉(Value.slice ad y1.draws.length cd).ownBlock.toList:=fun hi=>nR.1 (HM.out.2.2 b hi)
 by_cases hf0:y1.f=[]
 ·have g0:decide (y1.f=[])=true:=by simpa using hf0
  rw [g0]
  have HF0:=q9 hf0
  clear hf0 g0
  go_wp2_with fail
  have h3:Vb _ b { x with placed:=false } (.slice ad y1.draws.length cd) wp xp (some mb):=Ob.set h2 (i:=6) (.slice ad y1.draws.length cd)
  have SF:Fr [b] w2 (w2.setCell ⟨b,6,none⟩ (.slice ad y1.draws.length cd)):=Fr.setCell _ (by simp)
  have HM3:=q9 (qc (HM.out.1.kept SF (fun k hk hi=>by simp at hi;subst hi;exact nB' hk) (fun k hk hi=>by simp at hi;subst hi;exact nR.1 hk)) (HM.out.2.1.kept SF (fun k hk hi=>by simp at hi;subst hi;exact nbd hk)))
  have A3:=Rar.set A2 nbp nbq (i:=6) (.slice ad y1.draws.length cd)
  have D3:=D2.trans (SF.mono (T:=b :: p :: q :: Bm) (by simp))
  have m63:=SF.cell m6 (by simp;exact Ne.symm nbm)
  clear c0 c1 c2 c3 c4 c5 c6 c7 c8 c9 c10 c11 c12 c13 z h2 A2 D2 SF m4 m6
  generalize (w2.setCell ⟨b,6,none⟩ (.slice ad y1.draws.length cd))=w3 at *
  have c93:w3.cell? ⟨b,9,none⟩=some (.pointer (some ⟨mb,0,none⟩)):=h3.cell rfl
  refine qo (by kernel_rfl) ?_
  refine q1t (Cm w3 b mb y1.e) #[true,true,true,true,true,true,true,true,true,true,true,true,true,true,true,true,true,true,true,true,true,true,true] 23 0 rfl ?_
  refine R3 Cm.up [true,true,true,true,true,true,true,true,true,true,true,true,true,true,true,true,true,false,false,false,false,false,false] 6 (n:=184) (listed':=#[true,true,true,true,true,true,true,true,true,true,true,true,true,true,true,true,true,false,false,false,false,false,false]) rfl (by kernel_rfl) (by kernel_rfl) (by kernel_rfl) (by kernel_rfl) rfl (by kernel_rfl) (fun _ _ d _ _ h=>by cases d <;> exact h) (Cm.up w3 _ ⟨c93,m63,Fr.refl _ _⟩ ((Fr.refl _ _).drew)) ?_
  apply qg
  refine ⟨fun wf hf=>?_,?_⟩
  ·have k9:=qb hf.1
   have k6:=qb hf.2.1
   clear hf
   simp only [sel]
   repeat (go_big_quiet_step (fail))
   exact wpQuiet_nil rfl
  have E:=(Fr.refl [] w3).drew
  have h4:=Ob.up h3 E
  have A4:=A3.kept E
  have D4:=D3.then E
  have H4:=Cm.up w3 _ ⟨c93,m63,Fr.refl [b] w3⟩ E
  clear h3 A3 D3 c93 m63 E
  generalize w3.drew=w4 at *
  refine jh 17 (by kernel_rfl) rfl rfl (fun w5 F5=>?_)
  have h5:=Ob.up h4 F5
  have A5:=A4.kept F5
  have D5:=D4.then F5
  have H5:=Cm.up _ _ H4 F5
  clear h4 A4 D4 H4 F5
  go_wp2_with fail
  refine ql ⟨H5,?_⟩
  refine jh 18 (by kernel_rfl) rfl rfl (fun w6 F6=>?_)
  have h6:=Ob.up h5 F6
  have A6:=A5.kept F6
  have D6:=D5.then F6
  have H6:=Cm.up _ _ H5 F6
  clear h5 A5 D5 H5 F6
  go_wp2_with fail
  refine ql ⟨H6,?_⟩
  refine jh 19 (by kernel_rfl) rfl rfl (fun w7 F7=>?_)
  have h7z:=Ob.up h6 F7
  have A7z:=A6.kept F7
  have D7z:=D6.then F7
  have H7z:=Cm.up _ _ H6 F7
  have z:=h7z.frozen
  obtain ⟨c0,c1,c2,c3,c4,c5,c6,c7,c8,c9,c10,c11,c12,c13⟩:=zn h7z
  clear h6 A6 D6 H6 F7
  go_wp2_with fail
  have h8:Vb _ b { x with placed:=false,e:=y1.e } (.slice ad y1.draws.length cd) wp xp (some mb):=Ob.set h7z (i:=12) (.int .i64 y1.e)
  have SF:Fr [b] w7 (w7.setCell ⟨b,12,none⟩ (.int .i64 y1.e)):=Fr.setCell _ (by simp)
  have A8:=Rar.set A7z nbp nbq (i:=12) (.int .i64 y1.e)
  have D8:=D7z.trans (SF.mono (T:=b :: p :: q :: Bm) (by simp))
  have H8:Cm w3 b mb y1.e (w7.setCell ⟨b,12,none⟩ (.int .i64 y1.e)):=⟨h8.cell rfl,SF.cell H7z.2.1 (by simp;exact Ne.symm nbm),H7z.2.2.trans SF⟩
  clear c0 c1 c2 c3 c4 c5 c6 c7 c8 c9 c10 c11 c12 c13 z h7z A7z D7z H7z SF
  generalize (w7.setCell ⟨b,12,none⟩ (.int .i64 y1.e))=w8 at *
  refine ql ⟨H8,?_⟩
  refine jh 20 (by kernel_rfl) rfl rfl (fun w9 F9=>?_)
  have h9:=Ob.up h8 F9
  have A9:=A8.kept F9
  have D9:=D8.then F9
  have H9:=Cm.up _ _ H8 F9
  clear h8 A8 D8 H8 F9
  go_wp2_with fail
  refine ql ⟨H9,?_⟩
  refine jh 21 (by kernel_rfl) rfl rfl (fun w10 F10=>?_)
  have h10:=Ob.up h9 F10
  have A10:=A9.kept F10
  have D10:=D9.then F10
  have H10:=Cm.up _ _ H9 F10
  clear h9 A9 D9 H9 F10
  go_wp2_with fail
  refine ql ⟨H10,?_⟩
  generalize hob:(y1.e != 0)=ob at *
  have HOB:=q9 (show decide (y1.e≠0)=ob by rw [<- hob];by_cases h0:y1.e=0 <;> simp [h0])
  clear hob
  refine jh 22 (by kernel_rfl) rfl rfl (fun w11 F11=>?_)
  have h11z:=Ob.up h10 F11
  have A11z:=A10.kept F11
  have D11z:=D10.then F11
  have H11z:=Cm.up _ _ H10 F11
  have z:=h11z.frozen
  obtain ⟨c0,c1,c2,c3,c4,c5,c6,c7,c8,c9,c10,c11,c12,c13⟩:=zn h11z
  clear h10 A10 D10 H10 F11
  go_wp2_with fail
  have h12:Vb _ b { x with placed:=false,e:=y1.e,over:=ob } (.slice ad y1.draws.length cd) wp xp (some mb):=Ob.set h11z (i:=10) (.bool ob)
  have SF:Fr [b] w11 (w11.setCell ⟨b,10,none⟩ (.bool ob)):=Fr.setCell _ (by simp)
  have A12:=Rar.set A11z nbp nbq (i:=10) (.bool ob)
  have D12:=D11z.trans (SF.mono (T:=b :: p :: q :: Bm) (by simp))
  have H12:Cm w3 b mb y1.e (w11.setCell ⟨b,10,none⟩ (.bool ob)):=⟨h12.cell rfl,SF.cell H11z.2.1 (by simp;exact Ne.symm nbm),H11z.2.2.trans SF⟩
  clear c0 c1 c2 c3 c4 c5 c6 c7 c8 c9 c10 c11 c12 c13 z h11z A11z D11z H11z SF
  generalize (w11.setCell ⟨b,10,none⟩ (.bool ob))=w12 at *
  refine ql ⟨H12,?_⟩
  refine q6b (k:=23) rfl (by kernel_rfl) (fun w13 F13=>?_)
  have h13:=Ob.up h12 F13
  have A13:=A12.kept F13
  have D13:=D12.then F13
  have HMS:=q9 (HM3.out.2.kept (H12.2.2.then F13) (fun k hk hi=>by simp at hi;subst hi;exact nbd hk))
  clear h12 A12 D12 H12 F13
  rw [<- HOB.out] at h13
  go_wp2_with fail
  refine qo (by kernel_rfl) ?_
  refine yh 1 rfl (by kernel_rfl) (by kernel_rfl) (by kernel_rfl) rfl (fun _ _ d _ _ h=>by cases d <;> exact h) ?_
  go_frame
  refine yh 2 rfl (by kernel_rfl) (by kernel_rfl) (by kernel_rfl) rfl (fun _ _ d _ _ h=>by cases d <;> exact h) ?_
  go_frame
  refine z6 [] w13 #[true,true,true,true,true,true,true,true,true,true,true,true,false,false,false,false,false,false,false,false,false] 10 9 rfl ?_
  refine yx [true,false,false,true,true,true,true,true,true,true,true,false,false,false,false,false,false,false,false,false,false] 1 (n:=184) (listed':=#[true,true,true,true,true,true,true,true,true,true,true,false,false,false,false,false,false,false,false,false,false]) rfl (by kernel_rfl) (by kernel_rfl) (by kernel_rfl) (by kernel_rfl) rfl (by kernel_rfl) (fun _ _ d _ _ h=>by cases d <;> exact h) ((Fr.refl _ _).drew) ?_
  apply qg
  refine ⟨fun wf Ff=>?_,?_⟩
  ·obtain ⟨c0,c1,c2,c3,c4,c5,c6,c7,c8,c9,c10,c11,c12,c13⟩:=zn (Ob.up h13 Ff)
   have j0:=qb c0
   have j1:=qb c1
   have j2:=qb c2
   have j3:=qb c3
   have j4:=qb c4
   clear c0 c1 c2 c3 c4 c5 c6 c7 c8 c9 c10 c11 c12 c13
   simp only [sel]
   repeat (go_big_quiet_step (fail))
   exact wpQuiet_nil rfl
  refine loq 11 (fun w14 F14=>?_)
  have E:=((Fr.refl [] w13).drew.trans F14)
  clear F14
  go_wp2_with fail
  refine (Zo x.c x.key w14).mono ?_;rintro e w15 ⟨wb,rfl,hwb,W15,F15⟩
  have hE:=E.size
  replace E:=E.trans F15
  clear F15
  go_wp2_with fail
  refine ql ⟨E,?_⟩
  refine qx (k:=12) rfl (by kernel_rfl) (fun w16 F16=>?_)
  replace E:=E.trans F16
  have W16:=Ob.up W15 F16
  have h16:=Ob.up h13 E
  have A16:=A13.kept E
  have D16:=D13.then E
  have HS16:=q9 (HMS.out.up E)
  have HWB:=q9 (qh D13.size (qh hE hwb))
  have nbw:¬ b=wb:=by have:=Ob.lt h13;omega
  clear h13 A13 D13 E F16 W15 hwb hE
  obtain ⟨c0,c1,c2,c3,c4,c5,c6,c7,c8,c9,c10,c11,c12,c13⟩:=zn h16
  have z:=h16.frozen
  have HW16:=q9 W16
  clear W16
  go_wp2_with fail
  go_ret
  have SF:Fr [b] w16 (((w16.setCell ⟨b,9,none⟩ (.pointer none)).setCell ⟨b,8,none⟩ (.pointer none)).setCell ⟨b,7,none⟩ (.pointer (some ⟨wb,0,none⟩))):=((Fr.setCell _ (by simp)).setCell' _ (by simp)).setCell' _ (by simp)
  exact ⟨.inr ⟨HF0.out,Eq.trans (b:=.returned (.bool (!decide (y1.e=0)))) rfl (by simp),_,wb,Ob.set (Ob.set (Ob.set h16 _) (i:=8) (.pointer none)) (i:=7) (.pointer (some ⟨wb,0,none⟩)),HS16.out.kept SF (fun k hk hi=>by simp at hi;subst hi;exact nbd hk),HM.out.2.2,HWB.out,HW16.out.kept SF (by simp;exact Ne.symm nbw)⟩,Rar.set (Rar.set (Rar.set A16 nbp nbq _) nbp nbq (i:=8) (.pointer none)) nbp nbq (i:=7) (.pointer (some ⟨wb,0,none⟩)),D16.trans (SF.mono)⟩
 ·have g0:decide (y1.f=[])=false:=by simpa using hf0
  rw [g0]
  have HF0:=q9 hf0
  clear hf0 g0
  go_wp2_with fail
  go_ret
  have SF:Fr [b] w2 (w2.setCell ⟨b,6,none⟩ (.slice ad y1.draws.length cd)):=Fr.setCell _ (by simp)
  exact ⟨.inl ⟨HF0.out,Eq.trans (b:=.returned (.bool x.over)) rfl (by rw [HO.out]),_,B',Ob.set h2 _,HM.out.2.1.kept SF (fun k hk hi=>by simp at hi;subst hi;exact nbd hk),HM.out.2.2,HM.out.1.kept SF (fun k hk hi=>by simp at hi;subst hi;exact nB' hk) (fun k hk hi=>by simp at hi;subst hi;exact nR.1 hk),HB2.out⟩,Rar.set A2 nbp nbq _,D2.trans (SF.mono)⟩
theorem q5d (x:Cl) (s:St):(x.step s).1.c=x.c:=by
 unfold Cl.step
 split
 ·unfold Cl.next
  simp only [apply_ite Cl.c,ite_self]
 ·rfl
def qah (w:World) (R B:List Nat) (x:Pt) (wp xp mp:Option Nat):Prop :=
 (∃ mm mb,x.m=some mm/\mp=some mb/\Tt w R B mb mm/\mb∈B) \/
 (x.m=none/\mp=none/\∃ cl xb,x.x=some cl/\xp=some xb/\Zu w xb cl/\B=[xb]) \/
 (x.m=none/\mp=none/\x.x=none/\xp=none/\∃ wb,wp=some wb/\Qy w wb x.w/\B=[wb])
def q7m (w:World) (R B:List Nat) (b:Nat) (x:Pt):Prop:=∃ dv wp xp mp Bx,Vb w b x dv wp xp mp/\Sq fI w dv x.draws/\(∀ k,k∈dv.ownBlock.toList->k∈R)/\qah w R Bx x wp xp mp/\b∉Bx/\(∀ k,k∈R->k<w.heap.size/\k≠b/\k∉Bx)/\B=b :: Bx
theorem Tt.self {w:World} {R B:List Nat} {b:Nat} {m:Md} (h:Tt w R B b m):b∈B:=by
 obtain ⟨dv,fv,fr,h,rfl⟩:=h;exact vz.2 (.inl rfl)
theorem qah.lt {w:World} {R B:List Nat} {x:Pt} {wp xp mp:Option Nat} (h:qah w R B x wp xp mp):∀ k,k∈B->k<w.heap.size:=by
 rcases h with ⟨mm,mb,-,-,h,-⟩ | ⟨-,-,cl,xb,-,-,h,rfl⟩ | ⟨-,-,-,-,wb,-,h,rfl⟩
 ·exact h.lt
 ·intro k hk;simp at hk;subst hk;exact Ob.lt h
 ·intro k hk;simp at hk;subst hk;exact Ob.lt h
theorem q7m.lt {w:World} {R B:List Nat} {b:Nat} {x:Pt} (h:q7m w R B b x):∀ k,k∈B->k<w.heap.size:=by
 obtain ⟨dv,wp,xp,mp,Bx,h1,-,-,h4,-,-,rfl⟩:=h
 intro k hk
 rcases List.mem_cons.1 hk with rfl | hk
 ·exact Ob.lt h1
 ·exact h4.lt k hk
theorem q7m.kept {S:List Nat} {w w':World} {R B:List Nat} {b:Nat} {x:Pt} (h:q7m w R B b x) (F:Fr S w w') (hS:∀ k,k∈B->k∉S) (hR:∀ k,k∈R->k∉S):q7m w' R B b x:=by
 obtain ⟨dv,wp,xp,mp,Bx,h1,h2,h3,h4,h5,h6,rfl⟩:=h
 refine ⟨dv,wp,xp,mp,Bx,Ob.kept h1 F (hS b (by simp)),h2.kept F (fun k hk=>hR k (h3 k hk)),h3,?_,h5,fun k hk=>⟨qj (h6 k hk).1 F.size,(h6 k hk).2⟩,rfl⟩
 rcases h4 with ⟨mm,mb,e1,e2,h,hm⟩ | ⟨e1,e2,cl,xb,e3,e4,h,rfl⟩ | ⟨e1,e2,e3,e4,wb,e5,h,rfl⟩
 ·exact .inl ⟨mm,mb,e1,e2,h.kept F (fun k hk=>hS k (List.mem_cons_of_mem _ hk)) hR,hm⟩
 ·exact .inr (.inl ⟨e1,e2,cl,xb,e3,e4,Ob.kept h F (hS xb (by simp)),rfl⟩)
 ·exact .inr (.inr ⟨e1,e2,e3,e4,wb,e5,Ob.kept h F (hS wb (by simp)),rfl⟩)
structure V7 (N:Nat) (x:Pt):Prop where
 oc:x.c.Ok
 ok:0<=x.key/\x.key<=63
 ow:x.w.c=x.c/\x.w.key=x.key
 ox:∀ cl,x.x=some cl->cl.c=x.c
 om:∀ mm,x.m=some mm->X7 N mm/\mm.f≠[]
theorem V7.more {N:Nat} {x:Pt} (h:V7 N x):V7 (N+1) x:=⟨h.oc,h.ok,h.ow,h.ox,fun mm e=>⟨⟨(h.om mm e).1.c,(h.om mm e).1.f,Nat.le_succ_of_le (h.om mm e).1.len⟩,(h.om mm e).2⟩⟩
theorem V7.new {c:Cf} (hc:c.Ok) {key:Int} (hk:0<=key/\key<=63) (data:Int) (ds:List Int):V7 1 (Pt.new c key data ds):=⟨hc,hk,⟨rfl,rfl⟩,fun cl h=>(by cases h),fun mm h=>(by cases h)⟩
theorem V7.step {N:Nat} {x:Pt} (hN:1<=N) (h:V7 N x) (s:St):V7 (N+1) (x.step s).1:=by
 have hm:=h.more
 unfold Pt.step
 split
 ·exact hm
 ·cases em:x.m with
  | some m =>
   simp only
   obtain ⟨q1,q2⟩:=h.om m em
   by_cases e0:(m.step s).1.f=[]
   ·rw [qf e0];exact ⟨h.oc,h.ok,⟨rfl,rfl⟩,fun cl e=>(by cases e),fun mm e=>(by cases e)⟩
   ·rw [qd e0];exact ⟨h.oc,h.ok,h.ow,h.ox,fun mm e=>by simp only [Option.some.injEq] at e;rw [<- e];exact ⟨q1.step s,e0⟩⟩
  | none =>
   simp only
   cases ex:x.x with
   | some cl =>
    simp only
    have hcl:∀ c2,some (cl.step s).1=some c2->c2.c=x.c:=fun c2 e=>by simp only [Option.some.injEq] at e;rw [<- e];exact (q5d cl s).trans (h.ox cl ex)
    split
    ·split
     ·exact ⟨h.oc,h.ok,h.ow,hcl,fun mm e=>by first | cases e | (simp only at e;rw [em] at e;cases e) | (rw [em] at e;cases e)⟩
     ·refine ⟨h.oc,h.ok,h.ow,hcl,fun mm e=>?_⟩
      simp only [Option.some.injEq] at e
      have h1:=X7.new h.oc (cl.step s).1.chunk x.draws
      rw [<- e]
      exact ⟨⟨h1.c,h1.f,qh h1.len (by omega)⟩,by simp [Md.new]⟩
    ·exact ⟨h.oc,h.ok,h.ow,hcl,fun mm e=>by first | cases e | (simp only at e;rw [em] at e;cases e) | (rw [em] at e;cases e)⟩
   | none =>
    have hw:=Kb x.w s
    simp only
    split
    ·exact ⟨h.oc,h.ok,⟨hw.1.trans h.ow.1,hw.2.trans h.ow.2⟩,fun c2 e=>by simp only [Option.some.injEq] at e;rw [<- e];rfl,fun mm e=>by first | cases e | (simp only at e;rw [em] at e;cases e) | (rw [em] at e;cases e)⟩
    ·exact ⟨h.oc,h.ok,⟨hw.1.trans h.ow.1,hw.2.trans h.ow.2⟩,fun c2 e=>by first | cases e | (simp only at e;rw [ex] at e;cases e) | (rw [ex] at e;cases e),fun mm e=>by first | cases e | (simp only at e;rw [em] at e;cases e) | (rw [em] at e;cases e)⟩
theorem q98 (x:Pt) (ho:x.over=true) (b p:Nat) (dv:Value) (wp xp mp:Option Nat) (w:World) (h:Vb w b x dv wp xp mp) :
  Calls Tryz.prog 127 #[.pointer (some ⟨b,0,none⟩),.pointer (some ⟨p,0,none⟩)] w fun e w'=>e = .returned (.bool true)/\w'=w:=by
 have c10:w.cell? ⟨b,10,none⟩=some (.bool x.over):=h.cell rfl
 rw [ho] at c10
 go_enter Tryz.func127,Tryz.ntmps127
 go_wp2_with fail
 go_ret
 exact ⟨rfl,rfl⟩
theorem q87 (N:Nat) (hN:N<=90000) (x:Pt) (hx:V7 N x) (R B:List Nat) (b p q:Nat) (s:St) (w:World) (h:q7m w R B b x) (hA:Rar w p q s) (hp:p∉B) (hq:q∉B) (hpR:p∉R) (hqR:q∉R) :
  Calls Tryz.prog 127 #[.pointer (some ⟨b,0,none⟩),.pointer (some ⟨p,0,none⟩)] w (Stp w (fun w' B'=>q7m w' R B' b (x.step s).1) B p q (x.step s).2 (x.step s).1.over):=by
 obtain ⟨dv,wp,xp,mp,Bx,h1,h2,h3,h4,h5,h6,rfl⟩:=h
 have hlt:=h4.lt
 have hbl:=Ob.lt h1
 simp only [List.mem_cons,not_or] at hp hq
 have nbp:¬ b=p:=fun e=>hp.1 e.symm
 have nbq:¬ b=q:=fun e=>hq.1 e.symm
 have nbR:b∉R:=fun e=>(h6 b e).2.1 rfl
 cases ho:x.over with
 | true =>
  have e1:x.step s=(x,s):=by unfold Pt.step;rw [qf ho]
  rw [e1]
  refine (q98 x ho b p dv wp xp mp w h1).mono ?_
  rintro e w' ⟨rfl,rfl⟩
  exact ⟨by simp only;rw [ho],⟨_,⟨dv,wp,xp,mp,Bx,h1,h2,h3,h4,h5,h6,rfl⟩,fun k hk=>.inl hk⟩,hA,Fr.refl _ _⟩
 | false =>
  have hov:¬ x.over=true:=by rw [ho];simp
  rcases h4 with ⟨mm,mb,em,rfl,hM,hmb⟩ | ⟨em,rfl,cl,xb,ex,rfl,hX,rfl⟩ | ⟨em,rfl,ex,rfl,wb,rfl,hW,rfl⟩
  ·obtain ⟨i1,i2⟩:=hx.om mm em
   have e1:x.step s=(if (mm.step s).1.f=[] then { x with placed:=false,draws:=(mm.step s).1.draws,e:=(mm.step s).1.e,over:=decide ((mm.step s).1.e≠0),m:=none,x:=none,w:=Wk.new x.c x.key } else { x with placed:=false,draws:=(mm.step s).1.draws,m:=some (mm.step s).1 },(mm.step s).2):=by
    unfold Pt.step;rw [qd hov,em]
   rw [e1]
   refine (put_m N hN x mm i1 i2 ho b mb p q dv wp xp R Bx s w h1 hM hA ⟨h5,hp.2,hq.2⟩ ⟨nbR,hpR,hqR⟩ nbp nbq (fun e=>h5 (by rw [e];exact hmb))).mono ?_
   rintro e w' ⟨haf,hA',F⟩
   have F':Fr (p :: q :: b :: Bx) w w':=F.mono (by intro k hk;simp at hk ⊢;rcases hk with h | h | h | h <;> simp [h])
   rcases haf with ⟨hf0,he,dv',B',ho',hd',hr',hM',hB'⟩ | ⟨hf0,he,dv',wb,ho',hd',hr',hwb,hW'⟩
   ·rw [qd hf0]
    refine ⟨by rw [he];simp only;rw [ho],⟨b :: B',⟨dv',wp,xp,some mb,B',ho',hd',hr',.inl ⟨_,mb,rfl,rfl,hM',hM'.self⟩,fun hi=>?_,fun k hk=>⟨qj (h6 k hk).1 F.size,(h6 k hk).2.1,fun hi=>?_⟩,rfl⟩,fun k hk=>?_⟩,hA',F'⟩
    ·rcases hB' b hi with e | e
     ·exact h5 e
     ·omega
    ·rcases hB' k hi with e | e
     ·exact (h6 k hk).2.2 e
     ·have:=(h6 k hk).1;omega
    ·rcases List.mem_cons.1 hk with rfl | hk
     ·exact .inl (by simp)
     ·exact (hB' k hk).imp (fun e=>by simp [e]) id
   ·rw [qf hf0]
    refine ⟨he,⟨b :: [wb],⟨dv',some wb,none,none,[wb],ho',hd',hr',.inr (.inr ⟨rfl,rfl,rfl,rfl,wb,rfl,hW',rfl⟩),by simp;omega,fun k hk=>⟨qj (h6 k hk).1 F.size,(h6 k hk).2.1,by have:=(h6 k hk).1;simp;omega⟩,rfl⟩,fun k hk=>?_⟩,hA',F'⟩
    simp only [List.mem_cons,List.not_mem_nil,or_false] at hk
    rcases hk with rfl | rfl
    ·exact .inl (by simp)
    ·exact .inr hwb
  ·have e1:x.step s=(let y:=(cl.step s).1
     let p':Pt:={ x with x:=some y,placed:=decide (cl.i<0) && decide (0<=y.i) }
     if y.line=0 then (if 0<=y.version then { p' with version:=y.version,over:=true } else { p' with m:=some (Md.new x.c y.chunk x.draws) }) else p',(cl.step s).2):=by
    unfold Pt.step;rw [qd hov,em,ex]
   rw [e1]
   simp only [List.mem_cons,List.not_mem_nil,or_false] at hp hq h5 h6
   refine (put_x x hx.oc cl (by rw [hx.ox cl ex];exact hx.oc) ho b xb p q dv wp R s w h1 hX hA h2 h3 (fun k hk=>(h6 k hk).1) ⟨nbR,fun e=>(h6 xb e).2.2 rfl,hpR,hqR⟩ h5 nbp nbq (fun e=>hp.2 e.symm) (fun e=>hq.2 e.symm)).mono ?_
   rintro e w' ⟨haf,hX',hA',F⟩
   have F':Fr (p :: q :: b :: [xb]) w w':=F.mono (by intro k hk;simp at hk ⊢;rcases hk with h | h | h | h <;> simp [h])
   have hd':=h2.kept F (fun k hk hi=>by
    have hkR:=h3 k hk
    simp only [List.mem_cons,List.not_mem_nil,or_false] at hi
    rcases hi with rfl | rfl | rfl | rfl
    ·exact nbR hkR
    ·exact (h6 _ hkR).2.2 rfl
    ·exact hpR hkR
    ·exact hqR hkR)
   have h6':∀ k,k∈R->k<w'.heap.size/\k≠b/\k∉[xb]:=fun k hk=>⟨qj (h6 k hk).1 F.size,(h6 k hk).2.1,by simpa using (h6 k hk).2.2⟩
   rcases haf with ⟨hl0,he,ho'⟩ | ⟨hl0,hv0,he,ho'⟩ | ⟨hl0,hv0,he,mb,B',ho',hM',hB'⟩
   ·simp only
    rw [qd hl0]
    exact ⟨by rw [he];simp only;rw [ho],⟨b :: [xb],⟨dv,wp,some xb,none,[xb],ho',hd',h3,.inr (.inl ⟨em,rfl,_,xb,rfl,rfl,hX',rfl⟩),by simpa using h5,h6',rfl⟩,fun k hk=>.inl hk⟩,hA',F'⟩
   ·simp only
    rw [qf hl0,qf hv0]
    exact ⟨he,⟨b :: [xb],⟨dv,wp,some xb,none,[xb],ho',hd',h3,.inr (.inl ⟨em,rfl,_,xb,rfl,rfl,hX',rfl⟩),by simpa using h5,h6',rfl⟩,fun k hk=>.inl hk⟩,hA',F'⟩
   ·simp only
    rw [qf hl0,qd (by omega)]
    refine ⟨by rw [he];simp only;rw [ho],⟨b :: B',⟨dv,wp,some xb,some mb,B',ho',hd',h3,.inl ⟨_,mb,rfl,rfl,hM',hM'.self⟩,fun hi=>?_,fun k hk=>⟨(h6' k hk).1,(h6' k hk).2.1,fun hi=>?_⟩,rfl⟩,fun k hk=>?_⟩,hA',F'⟩
    ·have:=hB' b hi;omega
    ·have:=hB' k hi;have:=(h6 k hk).1;omega
    ·rcases List.mem_cons.1 hk with rfl | hk
     ·exact .inl (by simp)
     ·exact .inr (hB' k hk)
  ·have e1:x.step s=(if (x.w.step s).1.line=0 then { x with placed:=false,w:=(x.w.step s).1,x:=some (Cl.new x.c (x.w.step s).1.at_ x.key x.data) } else { x with placed:=false,w:=(x.w.step s).1 },(x.w.step s).2):=by
    unfold Pt.step;rw [qd hov,em,ex]
   rw [e1]
   simp only [List.mem_cons,List.not_mem_nil,or_false] at hp hq h5 h6
   refine (put_w x hx.oc hx.ow hx.ok ho b wb p q dv s w h1 hW hA h5 nbp nbq (fun e=>hp.2 e.symm) (fun e=>hq.2 e.symm)).mono ?_
   rintro e w' ⟨he,hW',hA',haf,F⟩
   have F':Fr (p :: q :: b :: [wb]) w w':=F.mono (by intro k hk;simp at hk ⊢;rcases hk with h | h | h | h <;> simp [h])
   have hd':=h2.kept F (fun k hk hi=>by
    have hkR:=h3 k hk
    simp only [List.mem_cons,List.not_mem_nil,or_false] at hi
    rcases hi with rfl | rfl | rfl | rfl
    ·exact nbR hkR
    ·exact (h6 _ hkR).2.2 rfl
    ·exact hpR hkR
    ·exact hqR hkR)
   rcases haf with ⟨hl0,xb,hxb,ho',hX'⟩ | ⟨hl0,ho'⟩
   ·rw [qf hl0]
    refine ⟨by rw [he];simp only;rw [ho],⟨b :: [xb],⟨dv,some wb,some xb,none,[xb],ho',hd',h3,.inr (.inl ⟨em,rfl,_,xb,rfl,rfl,hX',rfl⟩),by simp;omega,fun k hk=>⟨qj (h6 k hk).1 F.size,(h6 k hk).2.1,by have:=(h6 k hk).1;simp;omega⟩,rfl⟩,fun k hk=>?_⟩,hA',F'⟩
    simp only [List.mem_cons,List.not_mem_nil,or_false] at hk
    rcases hk with rfl | rfl
    ·exact .inl (by simp)
    ·exact .inr hxb
   ·rw [qd hl0]
    exact ⟨by rw [he];simp only;rw [ho],⟨b :: [wb],⟨dv,some wb,none,none,[wb],ho',hd',h3,.inr (.inr ⟨em,rfl,ex,rfl,wb,rfl,hW',rfl⟩),by simpa using h5,fun k hk=>⟨qj (h6 k hk).1 F.size,(h6 k hk).2.1,by simpa using (h6 k hk).2.2⟩,rfl⟩,fun k hk=>.inl hk⟩,hA',F'⟩
theorem Wl (c:Cf) (key data:Int) (ds:List Int) (dv:Value) (R:List Nat) (w:World) (hD:Sq fI w dv ds) (hdR:∀ k,k∈dv.ownBlock.toList->k∈R) (hR:∀ k,k∈R->k<w.heap.size) :
  Calls Tryz.prog 122 #[c.val,.int .i64 key,.int .i64 data,dv] w fun e w'=>∃ b B,e = .returned (.pointer (some ⟨b,0,none⟩))/\q7m w' R B b (Pt.new c key data ds)/\(∀ k,k∈B->w.heap.size<=k)/\Fr [] w w':=by
 obtain ⟨av,cv,rfl,hcv,hmv,-⟩:=id hD
 unfold Cf.val
 have F0:=(Fr.refl [] w).alloc (.cells #[.int .i64 c.t,.int .i64 c.c,.int .i64 c.wd,.int .i64 c.v] 23)
 have o0:=Ob.new w 23 #[.int .i64 c.t,.int .i64 c.c,.int .i64 c.wd,.int .i64 c.v]
 go_enter Tryz.func122,Tryz.ntmps122
 go_wp2_with fail
 generalize (w.alloc (.cells #[.int .i64 c.t,.int .i64 c.c,.int .i64 c.wd,.int .i64 c.v] 23))=w1 at *
 generalize w.heap.size=q at o0 ⊢
 refine qy (by kernel_rfl) [] (fun w2 F2=>?_)
 refine epq [true,true,true,true,true,true,false,false,false,false] 4 F2 ?_
 apply qg
 refine ⟨fun wf Ff=>?_,?_⟩
 ·obtain ⟨c0,c1,c2,c3⟩:=Pl.yf (Ob.up o0 Ff)
  have k0:=qb c0
  have k1:=qb c1
  have k2:=qb c2
  have k3:=qb c3
  clear c0 c1 c2 c3
  simp only [sel]
  repeat (go_big_quiet_step (fail))
  exact wpQuiet_nil rfl
 refine eoq 6 (fun w3 F3=>?_)
 have E:=F2.trans F3
 clear F2 F3 o0
 go_wp2_with fail
 refine (Zo c key w3).mono ?_;rintro e w4 ⟨wb,rfl,hwb,W4,F4⟩
 have HE:=q9 (qh F0.size (qh E.size hwb))
 replace E:=E.trans F4
 clear F4 hwb
 go_wp2_with fail
 refine ql ⟨E,?_⟩
 refine eoq 7 (fun w5 F5=>?_)
 replace E:=E.trans F5
 replace W4:=Ob.up W4 F5
 clear F5
 go_wp2_with fail
 refine ql ⟨E,?_⟩
 refine eoq 8 (fun w6 F6=>?_)
 replace E:=E.trans F6
 replace W4:=Ob.up W4 F6
 clear F6
 go_wp2_with fail
 have FA:=(Fr.refl [] w6).alloc (.cells (PtC (Pt.new c key data ds) (.slice av ds.length cv) (some wb) none none) 190)
 have oP:Vb _ w6.heap.size (Pt.new c key data ds) (.slice av ds.length cv) (some wb) none none:=Ob.new w6 190 _
 have W7:=Ob.up W4 FA
 have HP:=q9 (qc (qh F0.size E.size) (Ob.lt W4))
 refine ql ⟨E.trans FA,?_⟩
 refine eoq 9 (fun w8 F8=>?_)
 have E2:=(E.trans FA).trans F8
 have o8:=Ob.up oP F8
 have W8:=Ob.up W7 F8
 clear E FA F8 oP W7 W4
 generalize w6.heap.size=b at *
 go_wp2_with fail
 refine ql ⟨E2,?_⟩
 refine zr (by kernel_rfl) (fun w9 F9=>?_)
 have E3:=q9 (F0.trans (E2.trans F9))
 have HO:=q9 (qc (Ob.up o8 F9) (Ob.up W8 F9))
 clear o8 W8 E2 F9 F0
 go_wp2_with fail
 go_ret
 have h1:=HE.out
 have h2:=HP.out
 refine ⟨b,b :: [wb],rfl,⟨_,some wb,none,none,[wb],HO.out.1,hD.up E3.out,hdR,.inr (.inr ⟨rfl,rfl,rfl,rfl,wb,rfl,HO.out.2,rfl⟩),by simp;omega,fun k hk=>⟨qj (hR k hk) E3.out.size,by have:=hR k hk;omega,by have:=hR k hk;simp;omega⟩,rfl⟩,fun k hk=>?_,E3.out⟩
 simp only [List.mem_cons,List.not_mem_nil,or_false] at hk
 rcases hk with rfl | rfl <;> omega
end Go.Proofs.YtppajakfaomkaaaGreatDoor.Mx
namespace Go.Proofs.YtppajakfaomkaaaGreatDoor.Mx
open Go.RowKit Ar Ref Mp
theorem pqI:(Tryz.prog.info? 49).map (fun i=>(i.zero,i.size,i.bytes))=some (some (.agg #[.int .i64 0,.int .i64 0]),2,16):=by kernel_rfl
theorem Rs {l:List It} {i:Nat} {y:It} (hy:l[i]? = some y):Xu (l.take (i+1))=Xu (l.take i)++(if 0<=q47 y.d then [(y.k,q47 y.d)] else []):=by
 unfold Xu
 rw [List.take_add_one,hy,Option.toList_some,List.filterMap_append]
 congr 1
 by_cases h:0<=q47 y.d
 ·simp [h]
 ·simp [h]
theorem q4i (l:List It):(Xu l).length<=l.length:=List.length_filterMap_le _ _
def PrAt (w:World) (l:List It) (bx br:Nat) (ver:Int) (u:Value) (wr:World):Prop:=∃ (i:Nat) (pv:Value),i<=l.length/\u = .int .i64 (i:Nat)/\Ob wr bx 46 #[.int .i64 0,.bool false,.int .i64 0,.int .i64 (-1),.int .i64 ver,pv]/\Ob wr br 46 An0/\wr.ownsRow w.heap.size 49 2 pv (Xu (l.take i)).length ((Xu (l.take i)).flatMap fQ)/\Fr [] w wr
theorem Xp (x:Sn) (hl:x.items.length<=900000) (B:List Nat) (b:Nat) (w:World) (h:Kc w B b x) :
  Calls Tryz.prog 131 #[.pointer (some ⟨b,0,none⟩)] w fun e w'=>(∃ pv,e = .returned (Yj x.answer pv)/\w'.ownsRow w.heap.size 49 2 pv x.answer.pairs.length (x.answer.pairs.flatMap fQ))/\Fr [] w w':=by
 obtain ⟨bk,wp,lp,iv,Bw,Bl,hp,rfl⟩:=h.pt
 clear h
 have F0:=(Fr.refl [] w).alloc (.cells An0 46)
 have oa:=Ob.new w 46 An0
 have h1:=hp.re F0 (by simp) (Ob.up hp.o F0) rfl rfl rfl rfl
 have hbk:=Ob.lt hp.k
 have hb:=Ob.lt hp.o
 unfold An0 at F0 oa h1
 obtain ⟨c0,c1,c2,c3,c4,c5,c6,c7,c8,c9,c10,c11,c12,c13,c14⟩:=zo h1.o
 have z:=oa.frozen
 obtain ⟨q0,q1,q2,q3,q4,q5⟩:=Q9 oa
 by_cases h0:x.line=0
 ·have g1:(x.line != 0)=false:=by simpa using h0
  obtain ⟨y0,y1,y2,y3,y4,y5,y6,y7,y8,y9⟩:=yu h1.k
  by_cases he:x.k.e=0
  ·have g2:(x.k.e != 0)=false:=by simpa using he
   have HA:=q9 (show x.answer=⟨0,false,0,-1,x.k.version,Xu x.items⟩ by unfold Sn.answer;rw [qd (by simpa using h0),qd (by simpa using he)])
   clear h0 he
   go_enter Tryz.func131,Tryz.ntmps131
   go_wp2_with fail
   generalize hw1:World.alloc w _=w1 at *
   have hs1:w1.heap.size=w.heap.size+1:=by rw [<- hw1];exact Vg _ _
   have F1:=(Fr.refl [] w1).alloc (.cells #[.int .i64 0,.bool false,.int .i64 0,.int .i64 (-1),.int .i64 x.k.version,.slice none 0 0] 46)
   have ox:=Ob.newAt hs1 46 #[.int .i64 0,.bool false,.int .i64 0,.int .i64 (-1),.int .i64 x.k.version,.slice none 0 0]
   have oa2:=oa.up F1
   have G0:=F0.trans F1
   generalize hw2:World.alloc w1 _=w2 at *
   obtain ⟨ai,ci,rfl,hci,hmi,-⟩:=id hp.s
   have hiv:=hp.g
   have HX:=q9 (show w.heap.size+1≥w.heap.size from by omega)
   have HS1:=q9 hs1
   generalize hbx:w.heap.size+1=bx at *
   have HBX:=q9 hbx
   obtain ⟨br,hbr⟩:∃ br,br=w.heap.size:=⟨_,rfl⟩
   rw [<- hbr] at oa2 ⊢
   have HBR:=q9 hbr
   have bxr:¬ b=bx/\¬ br=bx:=by omega
   clear c0 c1 c2 c3 c4 c5 c6 c7 c8 c9 c10 c11 c12 c13 c14 y0 y1 y2 y3 y4 y5 y6 y7 y8 y9 q0 q1 q2 q3 q4 q5 z hbr hbx hs1 hw1 hw2 F0 F1 h1 oa
   go_loopw [4] (PrAt w x.items bx br x.k.version) (fun u _=>x.items.length - (intOf u).toNat)
   case atStart=>exact ⟨0,.slice none 0 0,by omega,rfl,ox,oa2,⟨rfl,.inl ⟨rfl,rfl⟩⟩,G0⟩
   case round =>
    obtain ⟨i,pv,hi,rfl,hox,hoa,hr,F⟩:=hrel
    have hS:=Ob.up hp.o F
    obtain ⟨c0,c1,c2,c3,c4,c5,c6,c7,c8,c9,c10,c11,c12,c13,c14⟩:=zo hS
    have hlen:=q4i (x.items.take i)
    have hlt2:(x.items.take i).length<=i:=List.length_take_le _ _
    by_cases hlt:i<x.items.length
    ·have HI2:=q9 (show i+1<=x.items.length/\x.items.length - (i+1)<x.items.length - i by omega)
     have hltz:(i:Int)<(x.items.length:Int):=by omega
     have hi0:(0:Int)<=(i:Int):=by omega
     obtain ⟨y,hy⟩:∃ y,x.items[i]? = some y:=⟨x.items[i],List.getElem?_eq_getElem hlt⟩
     have HM:=q9 (Rs hy)
     have hsq:=hp.s.up F
     obtain ⟨gi,oi,rfl,y0,y1,y2⟩:=xk hsq hy
     obtain ⟨T1,hT1⟩:∃ T1,T1=Xu (x.items.take i):=⟨_,rfl⟩
     rw [<- hT1] at hr hlen
     have HT1:=q9 hT1
     clear hT1
     obtain ⟨ap,cp,rfl,hcp,hmp,-⟩:=id (Sq.own (f:=fQ) hr)
     obtain ⟨q0,q1,q2,q3,q4,q5⟩:=Q9 hox
     go_wp2_with fail
     refine (Rp y.d wr).mono ?_;rintro e _ ⟨rfl,rfl⟩
     generalize hv:q47 y.d=v at *
     have HV:=q9 hv
     clear hv
     by_cases hv0:0<=v
     ·have g3:decide (v≥0)=true:=by simpa using hv0
      have HV0:=q9 hv0
      clear hv0
      have nb:=jd hr hS (by decide)
      have nx:=jd hr hox (by decide)
      have nr:=jd hr hoa (by decide)
      have ni:∀ k,k=gi->k∉(Value.slice ap T1.length cp).ownBlock.toList:=by
       intro k hk hi2
       subst hk
       have h1:=z8 hr _ hi2
       have h2:=hiv k (by simp [Value.ownBlock])
       omega
      go_wp2_with fail
      refine qo (by kernel_rfl) ?_
      refine z6 (Value.slice ap T1.length cp).ownBlock.toList wr #[true,true,true,true,true,true,true,true,true,true,true,true,true,true,false,false] 14 2 rfl ?_
      refine lpq [true,true,true,true,true,true,true,true,true,true,true,true,false,false,false,false] 2 ((Fr.refl _ _).drew) ?_
      apply qg
      refine ⟨fun wf Ff=>?_,?_⟩
      ·have j14:=qb (Ff.cell c14 nb)
       have j0:=qb (Ff.cell y0 (ni _ rfl))
       obtain ⟨-,-,-,-,-,e5⟩:=Q9 (Ob.kept hox Ff nx)
       have j5:=qb e5
       clear e5
       simp only [sel]
       repeat (go_big_quiet_step (fail))
       exact wpQuiet_nil rfl
      refine loq 12 (fun w10 F10=>?_)
      have G:=((Fr.refl (Value.slice ap T1.length cp).ownBlock.toList wr).drew).then F10
      have r10:=qm hr ((Fr.refl [] wr).drew.trans F10)
      clear F10
      go_wp2_with fail
      have F12:=(Fr.refl [] w10).alloc (.cells #[.int .i64 y.k,.int .i64 v] 49)
      have B12:=Go.heap_alloc_new w10 (.cells #[.int .i64 y.k,.int .i64 v] 49)
      have r12:=qm r10 F12
      replace G:=G.then F12
      clear r10 F12
      refine ql ⟨G,?_⟩
      refine loq 13 (fun w13 F13=>?_)
      have r22:=qm r12 F13
      have B22:=F13.heap B12 (by simp)
      replace G:=G.then F13
      clear r12 B12 F13
      go_wp2_with (at_builtin;refine qp Ub rfl _ _ 43 rfl Tryz.underlying43 pqI rfl (B:=w.heap.size) _ T1 rfl r22 _ [(y.k,v)] rfl (Sq.block B22 rfl rfl (Nat.le_refl _) (by simp [maxLen])) (by simp;omega) (by decide) (qh F.size G.size) ?_;intro a23 c23 w23 r23 f23)
      replace G:=G.trans f23
      clear f23 r22 B22
      refine ql ⟨G,?_⟩
      refine qx (k:=14) rfl (by kernel_rfl) (fun w15 F15=>?_)
      have r26:=qm r23 F15
      replace G:=G.then F15
      clear r23 F15
      have hox15:=Ob.kept hox G nx
      have hoa15:=Ob.kept hoa G nr
      have z:=hox15.frozen
      obtain ⟨q0,q1,q2,q3,q4,q5⟩:=Q9 hox15
      have en:(T1++[(y.k,v)]).length=T1.length+1:=by simp
      have r27:w15.ownsRow w.heap.size 49 2 (.slice a23 (T1.length+1) c23) (T1++[(y.k,v)]).length ((T1++[(y.k,v)]).flatMap fQ):=by rw [show (Value.slice a23 (T1++[(y.k,v)]).length c23)=Value.slice a23 (T1.length+1) c23 by rw [en]] at r26;exact r26
      have SF:Fr [bx] w15 (w15.setCell ⟨bx,5,none⟩ (.slice a23 (T1.length+1) c23)):=Fr.setCell _ (by simp)
      have HO16:=q9 (Ob.set hox15 (i:=5) (.slice a23 (T1.length+1) c23))
      have HA16:=q9 (Ob.other hoa15 bxr.2 (i:=5) (.slice a23 (T1.length+1) c23))
      have HR16:=q9 (kx r27 SF (fun g hg hi2=>jd r27 hox15 (by decide) (by simp at hi2;subst hi2;rw [hg];simp)))
      have HF16:=q9 ((F.own G (z8 hr)).own SF (by intro k hk;simp at hk;subst hk;have:=HBX.out;omega))
      clear r26 r27 SF en hox15 hoa15 G
      go_wp2_with fail
      go_roundw
      case rel=>exact ⟨i+1,_,HI2.out.1,by simp,HO16.out,HA16.out,by rw [HM.out,qf (by have:=HV0.out;omega),<- HT1.out];exact HR16.out,HF16.out⟩
      case measure=>exact meas rfl HI2.out.2
     ·have g3:decide (v≥0)=false:=by simpa using hv0
      have HV0:=q9 hv0
      clear hv0
      have HP:=q9 (qc hox (qc hoa (qc hr F)))
      clear hox hoa hr F q0 q1 q2 q3 q4 q5 hS
      go_wp2_with fail
      go_roundw
      case rel=>exact ⟨i+1,_,HI2.out.1,by simp,HP.out.1,HP.out.2.1,by rw [HM.out,qd (by have:=HV0.out;omega),List.append_nil,<- HT1.out];exact HP.out.2.2.1,HP.out.2.2.2⟩
      case measure=>exact meas rfl HI2.out.2
    ·obtain rfl:i=x.items.length:=by omega
     rw [List.take_length] at hr
     have HR:=q9 hr
     obtain ⟨ap,cp,rfl,-,-⟩:=Z4 hr
     have z:=hoa.frozen
     unfold An0 at hoa
     obtain ⟨q0,q1,q2,q3,q4,q5⟩:=Q9 hox
     obtain ⟨t0,t1,t2,t3,t4,t5⟩:=Q9 hoa
     generalize Xu x.items=T9 at *
     go_wp2_with fail
     have nr:=jd hr hoa (by decide)
     have o8:=Ky hoa (.int .i64 0) (.bool false) (.int .i64 0) (.int .i64 (-1)) (.int .i64 x.k.version) (.slice ap T9.length cp)
     have F8:=Wp (b:=br) (Fr.refl [br] wr) (List.mem_singleton.2 rfl) (.int .i64 0) (.bool false) (.int .i64 0) (.int .i64 (-1)) (.int .i64 x.k.version) (.slice ap T9.length cp)
     have r8:=kx hr F8 (fun g hg hi=>nr (by simp at hi;subst hi;rw [hg];simp))
     have F9:=F.own F8 (by have:=HBR.out;simp;omega)
     clear hox hoa hr F F8 q0 q1 q2 q3 q4 q5 t0 t1 t2 t3 t4 t5 c0 c1 c2 c3 c4 c5 c6 c7 c8 c9 c10 c11 c12 c13 c14 z nr
     generalize ((((((wr.setCell ⟨br,0,none⟩ (.int .i64 0)).setCell ⟨br,1,none⟩ (.bool false)).setCell ⟨br,2,none⟩ (.int .i64 0)).setCell ⟨br,3,none⟩ (.int .i64 (-1))).setCell ⟨br,4,none⟩ (.int .i64 x.k.version)).setCell ⟨br,5,none⟩ (.slice ap T9.length cp))=w8 at *
     obtain ⟨q0,q1,q2,q3,q4,q5⟩:=Q9 o8
     refine bodyPost_ret (v:=Yj ⟨0,false,0,-1,x.k.version,T9⟩ (.slice ap T9.length cp)) (by simp [results,Tryz.results131,go_sem,q0,q1,q2,q3,q4,q5,Yj,Vp]) rfl ⟨⟨_,by rw [HA.out],by rw [HA.out];exact r8⟩,F9⟩
  ·have g2:(x.k.e != 0)=true:=by simpa using he
   have HA:=q9 (show x.answer=⟨x.k.e,false,0,0,0,[]⟩ by unfold Sn.answer;rw [qd (by simpa using h0),qf (by simpa using he)])
   clear h0 he
   go_enter Tryz.func131,Tryz.ntmps131
   go_wp2_with fail
   have o8:=Ob.new w 46 #[.int .i64 x.k.e,.bool false,.int .i64 0,.int .i64 0,.int .i64 0,.slice none 0 0]
   have F8:=(Fr.refl [] w).alloc (.cells #[.int .i64 x.k.e,.bool false,.int .i64 0,.int .i64 0,.int .i64 0,.slice none 0 0] 46)
   clear h1 F0 oa c0 c1 c2 c3 c4 c5 c6 c7 c8 c9 c10 c11 c12 c13 c14 z q0 q1 q2 q3 q4 q5 y0 y1 y2 y3 y4 y5 y6 y7 y8 y9
   generalize (w.alloc (.cells #[.int .i64 x.k.e,.bool false,.int .i64 0,.int .i64 0,.int .i64 0,.slice none 0 0] 46))=w8 at *
   generalize hbr:w.heap.size=br at *
   obtain ⟨q0,q1,q2,q3,q4,q5⟩:=Q9 o8
   refine bodyPost_ret (v:=Yj ⟨x.k.e,false,0,0,0,[]⟩ (.slice none 0 0)) (by simp [results,Tryz.results131,go_sem,q0,q1,q2,q3,q4,q5,Yj,Vp]) rfl ⟨⟨.slice none 0 0,by rw [HA.out],by rw [HA.out];exact ⟨rfl,.inl ⟨rfl,rfl⟩⟩⟩,F8⟩
 ·have g1:(x.line != 0)=true:=by simpa using h0
  have HA:=q9 (show x.answer=Vp by unfold Sn.answer;rw [qf h0])
  clear h0
  go_enter Tryz.func131,Tryz.ntmps131
  go_wp2_with fail
  generalize hw1:World.alloc w _=w1 at *
  generalize hbr:w.heap.size=br at *
  obtain ⟨q0,q1,q2,q3,q4,q5⟩:=Q9 oa
  refine bodyPost_ret (v:=Yj Vp (.slice none 0 0)) (by simp [results,Tryz.results131,go_sem,q0,q1,q2,q3,q4,q5,Yj,Vp]) rfl ⟨⟨.slice none 0 0,by rw [HA.out],by rw [HA.out];exact ⟨rfl,.inl ⟨rfl,rfl⟩⟩⟩,F0⟩
end Go.Proofs.YtppajakfaomkaaaGreatDoor.Mx
namespace Go.Proofs.YtppajakfaomkaaaGreatDoor.Mx
open Go.RowKit Ar Ref Og Mp
def McC (m:Mc) (ov pv dv:Value) (pa:Nat) (tv kv ev:Value):Array Value:=#[.int .i64 m.c.t,.int .i64 m.c.c,.int .i64 m.c.wd,.int .i64 m.c.v,ov,pv,dv,.pointer (some ⟨pa,0,none⟩),tv,.int .i64 m.now,.int .i64 m.idle,kv,ev]
def q9q (w:World) (b:Nat) (m:Mc) (ov pv dv:Value) (pa:Nat) (tv kv ev:Value):Prop:=Ob w b 64 (McC m ov pv dv pa tv kv ev)
theorem zw {w:World} {b:Nat} {m:Mc} {ov pv dv:Value} {pa:Nat} {tv kv ev:Value} (h:q9q w b m ov pv dv pa tv kv ev):w.cell? ⟨b,0,none⟩=some (.int .i64 m.c.t)/\w.cell? ⟨b,1,none⟩=some (.int .i64 m.c.c)/\w.cell? ⟨b,2,none⟩=some (.int .i64 m.c.wd)/\w.cell? ⟨b,3,none⟩=some (.int .i64 m.c.v)/\w.cell? ⟨b,4,none⟩=some ov/\w.cell? ⟨b,5,none⟩=some pv/\w.cell? ⟨b,6,none⟩=some dv/\w.cell? ⟨b,7,none⟩=some (.pointer (some ⟨pa,0,none⟩))/\w.cell? ⟨b,8,none⟩=some tv/\w.cell? ⟨b,9,none⟩=some (.int .i64 m.now)/\w.cell? ⟨b,10,none⟩=some (.int .i64 m.idle)/\w.cell? ⟨b,11,none⟩=some kv/\w.cell? ⟨b,12,none⟩=some ev :=
 ⟨h.cell rfl,h.cell rfl,h.cell rfl,h.cell rfl,h.cell rfl,h.cell rfl,h.cell rfl,h.cell rfl,h.cell rfl,h.cell rfl,h.cell rfl,h.cell rfl,h.cell rfl⟩
structure Tv where
 next:Int
 busy:Bool
 scans:Int
 pp:Option Nat
 gp:Option Nat
 sp:Option Nat
def fTv (x:Tv):List Value:=[.int .i64 x.next,.bool x.busy,.int .i64 x.scans,xw x.pp,xw x.gp,xw x.sp]
theorem qbr (p:Option Nat):(xw p).oneCell'=true:=by cases p <;> rfl
theorem Wz:Lays fTv 6:=⟨fun _=>rfl,fun x u hu=>by simp [fTv] at hu;rcases hu with rfl | rfl | rfl | rfl | rfl | rfl <;> first | rfl | exact qbr _,by decide⟩
structure Evv where
 e:Ev
 s:Sv
def fEv (x:Evv):List Value:=[.int .i64 x.e.th,.int .i64 x.e.ix,.int .i64 x.e.op.1,.int .i64 x.e.op.2.1,.int .i64 x.e.op.2.2.1,.int .i64 x.e.op.2.2.2,.int .i64 x.e.begin_,.int .i64 x.e.end_,.int .i64 x.e.steps,.int .i64 x.e.alloc,.int .i64 x.e.at_,.int .i64 x.e.version,.int .i64 x.e.ans.code,.bool x.e.ans.found,.int .i64 x.e.ans.val,.int .i64 x.e.ans.writer,.int .i64 x.e.ans.version,x.s.v]
theorem J4:Lays fEv 18:=⟨fun _=>rfl,fun x u hu=>by simp [fEv] at hu;rcases hu with rfl | rfl | rfl | rfl | rfl | rfl | rfl | rfl | rfl | rfl | rfl | rfl | rfl | rfl | rfl | rfl | rfl | rfl <;> rfl,by decide⟩
theorem tvI:(Tryz.prog.info? 141).map (fun i=>(i.zero,i.size,i.bytes))=some (some (.agg #[.int .i64 0,.bool false,.int .i64 0,.pointer none,.pointer none,.pointer none]),6,48):=by kernel_rfl
theorem q9j {w:World} {a:Option Addr} {n cap i:Nat} {xs:List Evv} {x:Evv} (h:Sq fEv w (.slice a n cap) xs) (hi:xs[i]? = some x) :
  ∃ g off,a=some ⟨g,off,none⟩/\w.cell? ⟨g,off+i * 18,none⟩=some (.int .i64 x.e.th)/\w.cell? ⟨g,off+i * 18+1,none⟩=some (.int .i64 x.e.ix):=by
 obtain ⟨-,g,off,rfl,hc⟩:=Sq.cell J4 h hi
 exact ⟨g,off,rfl,hc 0 _ rfl,hc 1 _ rfl⟩
def evP (t i:Int) (x:Ev):Bool:=x.th == t && x.ix == i
def q4o (l:List Ev) (t i:Int):Int:=match l.findIdx? (evP t i) with | some k=>(k:Int) | none=>-1
theorem U9 (m:Mc) (t i:Int):m.event t i=m.e.findIdx? (evP t i):=rfl
theorem Sw {α:Type} {p:α->Bool} {l:List α} (h:∀ (j:Nat) (z:α),l[j]? = some z->p z=false):l.findIdx? p=none:=by
 rw [List.findIdx?_eq_none_iff]
 intro x hx
 obtain ⟨j,hj,rfl⟩:=List.getElem_of_mem hx
 exact h j _ (List.getElem?_eq_getElem hj)
theorem Si {α:Type} {p:α->Bool} {l:List α} {k:Nat} {y:α} (hy:l[k]? = some y) (hp:p y=true) (h:∀ (j:Nat) (z:α),j<k->l[j]? = some z->p z=false):l.findIdx? p=some k:=by
 obtain ⟨hk,rfl⟩:=List.getElem?_eq_some_iff.1 hy
 rw [List.findIdx?_eq_some_iff_getElem]
 exact ⟨hk,hp,fun j hj=>by rw [h j _ hj (List.getElem?_eq_getElem (by omega))];simp⟩
def EvAt (l:List Evv) (t i:Int) (u:Value) (w wr:World):Prop:=∃ k,k<=l.length/\u = .int .i64 (k:Nat)/\wr=w/\∀ j z,j<k->l[j]? = some z->evP t i z.e=false
theorem Te (m:Mc) (t i:Int) (b:Nat) (ov pv dv:Value) (pa:Nat) (tv kv ev:Value) (xs:List Evv) (w:World) (hl:xs.length<=1000000) (h:q9q w b m ov pv dv pa tv kv ev) (hs:Sq fEv w ev xs) :
  Calls Tryz.prog 78 #[.pointer (some ⟨b,0,none⟩),.int .i64 t,.int .i64 i] w fun e w'=>e = .returned (.int .i64 (q4o (xs.map Evv.e) t i))/\w'=w:=by
 obtain ⟨a,cap,rfl,hcap,hmax,-⟩:=id hs
 obtain ⟨-,-,-,-,-,-,-,-,-,-,-,-,c12⟩:=zw h
 have HS:=q9 hs
 clear hs
 go_enter Tryz.func78,Tryz.ntmps78
 go_wp2_with fail
 go_loopw [7] (fun u wr=>EvAt xs t i u w wr) (fun u _=>xs.length - (intOf u).toNat)
 case atStart=>exact ⟨0,Nat.zero_le _,rfl,rfl,by omega⟩
 case round =>
  obtain ⟨k,hk,rfl,rfl,h1⟩:=hrel
  by_cases hlt:k<xs.length
  ·have HI2:=q9 (show k+1<=xs.length/\xs.length - (k+1)<xs.length - k by omega)
   have hltz:(k:Int)<(xs.length:Int):=by omega
   have hk0:(0:Int)<=(k:Int):=by omega
   obtain ⟨y,hy⟩:∃ y,xs[k]? = some y:=⟨xs[k],List.getElem?_eq_getElem hlt⟩
   obtain ⟨g,off,rfl,d0,d1⟩:=q9j HS.out hy
   have HH:=q9 (qc hy h1)
   clear hy h1
   by_cases e1:y.e.th=t
   ·have g1:(y.e.th == t)=true:=by simpa using e1
    by_cases e2:y.e.ix=i
    ·have g2:(y.e.ix == i)=true:=by simpa using e2
     have HP:=q9 (show evP t i y.e=true by unfold evP;simp [e1,e2])
     clear e1 e2
     go_wp2_with fail
     go_ret
     refine ⟨?_,rfl⟩
     rw [show q4o (xs.map Evv.e) t i=(k:Int) by unfold q4o;rw [Si (k:=k) (y:=y.e) (by rw [List.getElem?_map,HH.out.1];rfl) HP.out (fun j z hj hz=>by rw [List.getElem?_map] at hz;obtain ⟨z0,hz0,rfl⟩:=Option.map_eq_some_iff.1 hz;exact HH.out.2 j z0 hj hz0)]]
     rfl
    ·have g2:(y.e.ix == i)=false:=by simpa using e2
     have HP:=q9 (show evP t i y.e=false by unfold evP;simp [e2])
     clear e1 e2
     go_wp2_with fail
     go_roundw
     case rel=>exact ⟨k+1,HI2.out.1,by simp,rfl,fun j z hj hz=>by
      by_cases e:j=k
      ·subst e;rw [HH.out.1] at hz;cases hz;exact HP.out
      ·exact HH.out.2 j z (by omega) hz⟩
     case measure=>exact meas rfl HI2.out.2
   ·have g1:(y.e.th == t)=false:=by simpa using e1
    have HP:=q9 (show evP t i y.e=false by unfold evP;simp [e1])
    clear e1
    go_wp2_with fail
    go_roundw
    case rel=>exact ⟨k+1,HI2.out.1,by simp,rfl,fun j z hj hz=>by
     by_cases e:j=k
     ·subst e;rw [HH.out.1] at hz;cases hz;exact HP.out
     ·exact HH.out.2 j z (by omega) hz⟩
    case measure=>exact meas rfl HI2.out.2
  ·obtain rfl:k=xs.length:=by omega
   have HH:=q9 h1
   clear h1
   go_wp2_with fail
   go_ret
   refine ⟨?_,rfl⟩
   rw [show q4o (xs.map Evv.e) t i = -1 by unfold q4o;rw [Sw (fun j z hz=>by rw [List.getElem?_map] at hz;obtain ⟨z0,hz0,rfl⟩:=Option.map_eq_some_iff.1 hz;exact HH.out j z0 (List.getElem?_eq_some_iff.1 hz0).1 hz0)]]
   rfl
def fO (o:O):List Value:=[.int .i64 o.1,.int .i64 o.2.1,.int .i64 o.2.2.1,.int .i64 o.2.2.2]
theorem q75:Lays fO 4:=⟨fun _=>rfl,fun x u hu=>by simp [fO] at hu;rcases hu with rfl | rfl | rfl | rfl <;> rfl,by decide⟩
structure Su (w:World) (R:List Nat) (ov:Value) (ss:List Sv) (rs:List (List O)):Prop where
 sq:Sq fS w ov ss
 len:ss.length=rs.length
 row:∀ (i:Nat) (s:Sv) (r:List O),ss[i]? = some s->rs[i]? = some r->Sq fO w s.v r/\(r≠[]->∀ k,k∈s.v.ownBlock.toList->k∈R)
 own:rs≠[]->∀ k,k∈ov.ownBlock.toList->k∈R
theorem Sq.keptN {α:Type} {f:α->List Value} {S:List Nat} {w w':World} {v:Value} {xs:List α} (h:Sq f w v xs) (k:Fr S w w') (hS:xs≠[]->∀ g,g∈v.ownBlock.toList->g∉S):Sq f w' v xs:=by
 cases xs with
 | nil=>obtain ⟨a,cap,e,h1,h2,-⟩:=h;exact ⟨a,cap,e,h1,h2,.inl rfl⟩
 | cons x xs=>exact h.kept k (hS (by simp))
theorem Su.kept {S:List Nat} {w w':World} {R:List Nat} {ov:Value} {ss:List Sv} {rs:List (List O)} (h:Su w R ov ss rs) (F:Fr S w w') (hS:∀ k,k∈R->k∉S):Su w' R ov ss rs :=
 ⟨h.sq.keptN F (fun hne k hk=>hS k (h.own (fun e=>hne (List.eq_nil_of_length_eq_zero (by rw [h.len,e];rfl))) k hk)),h.len,fun i s r e1 e2=>⟨(h.row i s r e1 e2).1.keptN F (fun hne k hk=>hS k ((h.row i s r e1 e2).2 hne k hk)),(h.row i s r e1 e2).2⟩,h.own⟩
def opsV (ss:List Sv) (t:Int):Value:=if t<0\/(ss.length:Int)<=t then .slice none 0 0 else (ss.getD t.toNat ⟨none,0,0⟩).v
theorem q51 {w:World} {R:List Nat} {ov:Value} {ss:List Sv} {m:Mc} (h:Su w R ov ss m.ops) (t:Int):Sq fO w (opsV ss t) (m.opsOf t):=by
 unfold opsV Mc.opsOf
 by_cases h0:t<0
 ·rw [qf (.inl h0),qf h0];exact Sq.nil w
 ·rw [qd h0]
  by_cases h1:(ss.length:Int)<=t
  ·rw [qf (.inr h1),List.getD_eq_getElem?_getD,List.getElem?_eq_none (by rw [<- h.len];omega)];exact Sq.nil w
  rw [qd (by omega)]
  have hl:t.toNat<ss.length:=by omega
  have hr:t.toNat<m.ops.length:=by rw [<- h.len];exact hl
  rw [List.getD_eq_getElem?_getD,List.getD_eq_getElem?_getD,List.getElem?_eq_getElem hl,List.getElem?_eq_getElem hr]
  exact (h.row t.toNat _ _ (List.getElem?_eq_getElem hl) (List.getElem?_eq_getElem hr)).1
theorem Ka (m:Mc) (t:Int) (b:Nat) (ov pv dv:Value) (pa:Nat) (tv kv ev:Value) (R:List Nat) (ss:List Sv) (w:World) (h:q9q w b m ov pv dv pa tv kv ev) (hO:Su w R ov ss m.ops) :
  Calls Tryz.prog 80 #[.pointer (some ⟨b,0,none⟩),.int .i64 t] w fun e w'=>e = .returned (opsV ss t)/\w'=w:=by
 obtain ⟨a,cap,rfl,hcap,hmax,-⟩:=id hO.sq
 obtain ⟨-,-,-,-,c4,-,-,-,-,-,-,-,-⟩:=zw h
 unfold opsV
 by_cases h0:t<0
 ·rw [qf (.inl h0)]
  go_enter Tryz.func80,Tryz.ntmps80
  go_wp2_with fail
  go_ret
  exact ⟨rfl,rfl⟩
 ·by_cases h1:(ss.length:Int)<=t
  ·rw [qf (.inr h1)]
   go_enter Tryz.func80,Tryz.ntmps80
   go_wp2_with fail
   go_ret
   exact ⟨rfl,rfl⟩
  obtain ⟨n,rfl⟩:∃ n:Nat,t=(n:Int):=⟨t.toNat,by omega⟩
  have hl:n<ss.length:=by omega
  obtain ⟨s,hs⟩:∃ s,ss[n]? = some s:=⟨ss[n],List.getElem?_eq_getElem hl⟩
  obtain ⟨g,off,rfl,d0⟩:=Jv hO.sq hs
  rw [qd (by omega),Int.toNat_natCast,List.getD_eq_getElem?_getD,hs,Option.getD_some]
  have hlz:(n:Int)<(ss.length:Int):=by omega
  unfold Sv.v
  clear hs hl
  go_enter Tryz.func80,Tryz.ntmps80
  go_wp2_with fail
  go_ret
  exact ⟨rfl,rfl⟩
theorem q94 {w:World} {a:Option Addr} {n cap i:Nat} {xs:List Tv} {x:Tv} (h:Sq fTv w (.slice a n cap) xs) (hi:xs[i]? = some x) :
  ∃ g off,a=some ⟨g,off,none⟩/\w.cell? ⟨g,off+i * 6,none⟩=some (.int .i64 x.next)/\w.cell? ⟨g,off+i * 6+1,none⟩=some (.bool x.busy):=by
 obtain ⟨-,g,off,rfl,hc⟩:=Sq.cell Wz h hi
 exact ⟨g,off,rfl,hc 0 _ rfl,hc 1 _ rfl⟩
def qdh (x:Th) (y:Tv):Prop:=y.next=x.next/\y.busy=x.busy/\y.scans=x.scans
theorem q7i (m:Mc) (t:Int) (b:Nat) (ov pv dv:Value) (pa:Nat) (tv kv ev:Value) (R:List Nat) (ss:List Sv) (ts:List Tv) (w:World) (h:q9q w b m ov pv dv pa tv kv ev) (hO:Su w R ov ss m.ops) (hT:Sq fTv w tv ts) (hTl:ts.length=m.t.length) (hTi:∀ (i:Nat) (x:Th) (y:Tv),m.t[i]? = some x->ts[i]? = some y->qdh x y) :
  Calls Tryz.prog 26 #[.pointer (some ⟨b,0,none⟩),.int .i64 t] w fun e w'=>e = .returned (.bool (m.over t))/\Fr [] w w':=by
 have HTL:=q9 hTl
 clear hTl
 obtain ⟨a,cap,rfl,hcap,hmax,-⟩:=id hT
 obtain ⟨tv0,htv⟩:∃ tv0,tv0=Value.slice a ts.length cap:=⟨_,rfl⟩
 have HH:=q9 (qc h hO)
 have HV:=q9 htv
 obtain ⟨-,-,-,-,-,-,-,-,c8,-,-,-,-⟩:=zw h
 generalize hov:m.over t=o
 have HO:=q9 hov
 rw [<- htv] at HH
 clear h hO hov htv
 by_cases h0:t<0
 ·have g1:decide (t<0)=true:=by simpa using h0
  have HN:=q9 (show o=true by rw [<- HO.out];unfold Mc.over;simp [h0])
  have k8:=qb c8
  clear c8 h0
  ·skip
   go_enter Tryz.func26,Tryz.ntmps26
   go_wp2_with fail
   refine wiq ?_
   repeat (go_big_quiet_step ((go_at_call 80;exact Calls.in_same ((Ka m _ b ov pv dv pa tv0 kv ev R ss _ (Ob.up HH.out.1 (In.fr _)) (HH.out.2.kept (In.fr _) (by simp))).mono (fun e w' hh=>⟨hh.1,hh.2.symm⟩)))))
   refine wpQuiet_nil ?_
   intro w2 F2
   go_wp2_with fail
   go_ret
   exact ⟨by rw [HN.out];rfl,F2⟩
 ·have g1:decide (t<0)=false:=by simpa using h0
  by_cases h1:(ts.length:Int)<=t
  ·have g2:decide (t≥(ts.length:Int))=true:=by simpa using h1
   have g3:decide ((ts.length:Int)<=t)=true:=by simpa using h1
   have HN:=q9 (show o=true by rw [<- HO.out];unfold Mc.over;rw [HTL.out] at h1;simp [h1])
   have k8:=qb c8
   clear c8 h0 h1
   go_enter Tryz.func26,Tryz.ntmps26
   go_wp2_with fail
   refine wiq ?_
   repeat (go_big_quiet_step ((go_at_call 80;exact Calls.in_same ((Ka m _ b ov pv dv pa tv0 kv ev R ss _ (Ob.up HH.out.1 (In.fr _)) (HH.out.2.kept (In.fr _) (by simp))).mono (fun e w' hh=>⟨hh.1,hh.2.symm⟩)))))
   refine wpQuiet_nil ?_
   intro w2 F2
   go_wp2_with fail
   go_ret
   exact ⟨by rw [HN.out];rfl,F2⟩
  obtain ⟨n,rfl⟩:∃ n:Nat,t=(n:Int):=⟨t.toNat,by omega⟩
  have hl:n<ts.length:=by omega
  have g2:decide ((n:Int)≥(ts.length:Int))=false:=by simpa using h1
  have g2n:decide (ts.length<=n)=false:=by simp;omega
  have hlz:(n:Int)<(ts.length:Int):=by omega
  obtain ⟨y,hy⟩:∃ y,ts[n]? = some y:=⟨ts[n],List.getElem?_eq_getElem hl⟩
  obtain ⟨x,hx⟩:∃ x,m.t[n]? = some x:=⟨m.t[n]'(by rw [<- HTL.out];exact hl),List.getElem?_eq_getElem _⟩
  obtain ⟨e1,e2,-⟩:=hTi n x y hx hy
  obtain ⟨g,off,rfl,d0,d1⟩:=q94 hT hy
  have hth:m.th (n:Int)=x:=by unfold Mc.th;rw [Int.toNat_natCast,List.getD_eq_getElem?_getD,hx];rfl
  have HM:=q9 (show m.over (n:Int)=(!x.busy && decide (((m.opsOf (n:Int)).length:Int)<=x.next)) by
   unfold Mc.over
   rw [hth,show decide ((n:Int)<0)=false from by simp,show decide ((m.t.length:Int)<=(n:Int))=false from by rw [<- HTL.out];simpa using h1];rfl)
  rw [e1] at d0
  rw [e2] at d1
  have HS:=q9 (q51 HH.out.2 (n:Int))
  have k8:=qb c8
  have k0:=qb d0
  have k1:=qb d1
  clear c8 d0 d1 h0 h1 hl hy hx hth e1 e2 hT
  obtain ⟨ao,co,hov,-,-,-⟩:=HS.out
  have HOV:=q9 hov
  clear hov
  generalize (m.opsOf (n:Int)).length=len at *
  cases hb:x.busy
  ·rw [hb] at k1
   by_cases hn:(len:Int)<=x.next
   focus
    have g3:decide (x.next≥(len:Int))=true:=by simpa using hn
    have g4:decide ((len:Int)<=x.next)=true:=by simpa using hn
    have HN:=q9 (show o=true by rw [<- HO.out,HM.out,hb];simp [hn])
   rotate_left
   focus
    have g3:decide (x.next≥(len:Int))=false:=by simpa using hn
    have g4:decide ((len:Int)<=x.next)=false:=by simpa using hn
    have HN:=q9 (show o=false by rw [<- HO.out,HM.out,hb];simp;omega)
   rotate_left
   all_goals
    clear hb hn
    go_enter Tryz.func26,Tryz.ntmps26
    go_wp2_with fail
    refine wiq ?_
    repeat (go_big_quiet_step ((go_at_call 80;exact Calls.in_same ((Ka m _ b ov pv dv pa tv0 kv ev R ss _ (Ob.up HH.out.1 (In.fr _)) (HH.out.2.kept (In.fr _) (by simp))).mono (fun e w' hh=>⟨hh.1.trans (by rw [HOV.out]),hh.2.symm⟩)))))
    refine wpQuiet_nil ?_
    intro w2 F2
    go_wp2_with fail
    go_ret
    exact ⟨by rw [HN.out];rfl,F2⟩
  have HN:=q9 (show o=false by rw [<- HO.out,HM.out,hb];rfl)
  rw [hb] at k1
  clear hb
  go_enter Tryz.func26,Tryz.ntmps26
  go_wp2_with fail
  refine wiq ?_
  repeat (go_big_quiet_step ((go_at_call 80;exact Calls.in_same ((Ka m _ b ov pv dv pa tv0 kv ev R ss _ (Ob.up HH.out.1 (In.fr _)) (HH.out.2.kept (In.fr _) (by simp))).mono (fun e w' hh=>⟨hh.1.trans (by rw [HOV.out]),hh.2.symm⟩)))))
  refine wpQuiet_nil ?_
  intro w2 F2
  go_wp2_with fail
  go_ret
  exact ⟨by rw [HN.out];rfl,F2⟩
theorem q4z (x:Int) (w:World):Calls Tryz.prog 132 #[.int .i64 x] w fun e w'=>e = .returned (.tuple #[.int .i64 (ofP x).1,.int .i64 (ofP x).2])/\w=w':=by
 go_enter Tryz.func132,Tryz.ntmps132
 by_cases h1:x<0
 ·have g1:decide (x<0)=true:=by simpa using h1
  have e1:ofP x=(-1,-1):=by unfold ofP;rw [qf (.inl h1)]
  rw [e1]
  go_wp2
  exact bodyPost_ret (v:=.tuple #[.int .i64 (-1),.int .i64 (-1)]) (by simp [results,Tryz.results132,go_sem]) rfl ⟨rfl,rfl⟩
 have g1:decide (x<0)=false:=by simpa using h1
 by_cases h2:8000<=x
 ·have g2:decide (x≥8000)=true:=by simpa using h2
  have e1:ofP x=(-1,-1):=by unfold ofP;rw [qf (.inr h2)]
  rw [e1]
  go_wp2
  exact bodyPost_ret (v:=.tuple #[.int .i64 (-1),.int .i64 (-1)]) (by simp [results,Tryz.results132,go_sem]) rfl ⟨rfl,rfl⟩
 have g2:decide (x≥8000)=false:=by simpa using h2
 have e1:ofP x=(x / 1000,x % 1000):=by unfold ofP;rw [qd (by omega)]
 have h0:0<=x/\x<8000:=by omega
 rw [e1]
 go_wp2
 exact bodyPost_ret (v:=.tuple #[.int .i64 (x / 1000),.int .i64 (x % 1000)]) (by simp [results,Tryz.results132,go_sem]) rfl ⟨rfl,rfl⟩
theorem q4h (t i:Int) (w:World):Calls Tryz.prog 81 #[.int .i64 t,.int .i64 i] w fun e w'=>e = .returned (.int .i64 (vh t i))/\w=w':=by
 go_enter Tryz.func81,Tryz.ntmps81
 by_cases h1:t<0
 ·have g1:decide (t<0)=true:=by simpa using h1
  go_wp2;go_ret;exact ⟨by unfold vh;rw [qf (by omega)];rfl,rfl⟩
 have g1:decide (t<0)=false:=by simpa using h1
 by_cases h2:t≥8
 ·have g2:decide (t≥8)=true:=by simpa using h2
  go_wp2;go_ret;exact ⟨by unfold vh;rw [qf (by omega)];rfl,rfl⟩
 have g2:decide (t≥8)=false:=by simpa using h2
 by_cases h3:i<0
 ·have g3:decide (i<0)=true:=by simpa using h3
  go_wp2;go_ret;exact ⟨by unfold vh;rw [qf (by omega)];rfl,rfl⟩
 have g3:decide (i<0)=false:=by simpa using h3
 by_cases h4:i≥1000
 ·have g4:decide (i≥1000)=true:=by simpa using h4
  go_wp2;go_ret;exact ⟨by unfold vh;rw [qf (by omega)];rfl,rfl⟩
 have g4:decide (i≥1000)=false:=by simpa using h4
 go_wp2;go_ret;exact ⟨by unfold vh;rw [qd (by omega)];rfl,rfl⟩
def DrOf (w:World) (m:Mc) (dv:Value) (x:Int) (v:Value):Prop:=Sq fI w v (m.drawsOf x)/\∀ k,k∈v.ownBlock.toList->m.draws≠[]/\k∈dv.ownBlock.toList
theorem Sa (m:Mc) (x:Int) (hx:0<=x/\x<8000) (b:Nat) (ov pv dv:Value) (pa:Nat) (tv kv ev:Value) (w:World) (h:q9q w b m ov pv dv pa tv kv ev) (hD:Sq fI w dv m.draws) :
  Calls Tryz.prog 124 #[.pointer (some ⟨b,0,none⟩),.int .i64 x] w fun e w'=>(∃ v,e = .returned v/\DrOf w m dv x v)/\Fr [] w w':=by
 obtain ⟨a,cap,rfl,hcap,hmax,-⟩:=id hD
 obtain ⟨-,-,-,-,-,-,c6,-,-,-,-,-,-⟩:=zw h
 by_cases h0:m.draws.length=0
 ·have e0:=List.eq_nil_of_length_eq_zero h0
  have g0:((m.draws.length:Int) == 0)=true:=by simp [h0]
  go_enter Tryz.func124,Tryz.ntmps124
  go_wp2_with fail
  refine (q4z x w).mono ?_;rintro e w1 ⟨rfl,rfl⟩
  go_wp2_with fail
  go_ret
  refine ⟨⟨_,rfl,?_,by simp [Value.ownBlock]⟩,Fr.refl _ _⟩
  unfold Mc.drawsOf;rw [qf e0];exact Sq.nil w
 ·have g0:((m.draws.length:Int) == 0)=false:=by simpa using h0
  obtain ⟨d,hd⟩:∃ d,m.draws[0]? = some d:=⟨m.draws[0]'(by omega),List.getElem?_eq_getElem _⟩
  obtain ⟨gd,od,rfl,d0⟩:=Zn hD hd
  go_enter Tryz.func124,Tryz.ntmps124
  go_wp2_with fail
  refine (q4z x w).mono ?_;rintro e w1 ⟨rfl,rfl⟩
  obtain ⟨i,hi⟩:∃ i:Nat,(ofP x).2=(i:Int):=⟨(x % 1000).toNat,by unfold ofP;rw [qd (by omega)];simp only;omega⟩
  have hi2:i<1000:=by
   have:(ofP x).2=x % 1000:=by unfold ofP;rw [qd (by omega)]
   omega
  rw [hi]
  have HI:=q9 hi
  clear hi
  have hk:Int.tmod (i:Int) (m.draws.length:Int)=((i % m.draws.length:Nat):Int):=by rw [Int.tmod_eq_emod_of_nonneg (by omega)];rfl
  have hlt:i % m.draws.length<m.draws.length:=Nat.mod_lt _ (by omega)
  have HK:=q9 hk
  generalize i % m.draws.length=k at *
  have hkz:(k:Int)<(m.draws.length:Int):=by omega
  have hk0:(0:Int)<=(k:Int):=by omega
  have hkc:¬ k=cap:=by omega
  have k6:=qb c6
  go_wp2_with fail
  clear c6
  refine wiq ?_
  repeat (go_big_quiet_step (fail))
  refine wpQuiet_nil ?_
  intro w2 F2
  go_wp2_with fail
  go_ret
  refine ⟨⟨_,rfl,?_,fun k hk=>⟨fun e=>h0 (by rw [e];rfl),by simpa [Value.ownBlock] using hk⟩⟩,F2⟩
  have hs:=Sq.drop yc hD k (by omega)
  rw [Nat.mul_one] at hs
  have e1:m.drawsOf x=m.draws.drop k:=by
   unfold Mc.drawsOf
   rw [qd (fun e=>h0 (by rw [e];rfl)),HI.out,HK.out,Int.toNat_natCast]
  rw [e1]
  exact hs
end Go.Proofs.YtppajakfaomkaaaGreatDoor.Mx
