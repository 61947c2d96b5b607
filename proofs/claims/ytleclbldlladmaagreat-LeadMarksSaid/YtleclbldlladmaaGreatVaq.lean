/- Parts. -/
import Derived.Test.YtleclbldlladmaaGreatVaa
import Derived.Test.YtleclbldlladmaaGreatVap
set_option linter.unusedVariables false
set_option linter.unusedSimpArgs false
set_option maxRecDepth 100000
set_option maxHeartbeats 12800000
namespace Go.Proofs.YtleclbldlladmaaGreat.Mx
open Go.RowKit Ar Ref
theorem Z3 {w:World} {a:Option Addr} {n cap i:Nat} {xs:List Nat} {x:Nat} (h:Sq fP w (.slice a n cap) xs) (hi:xs[i]? = some x) :
  ∃ g off,a=some ⟨g,off,none⟩/\w.cell? ⟨g,off+i,none⟩=some (.pointer (some ⟨x,0,none⟩)):=by
 obtain ⟨-,g,off,rfl,hc⟩:=Sq.cell V7 h hi;exact ⟨g,off,rfl,by simpa using hc 0 _ rfl⟩
def AftR (w w':World) (c:Cf) (fb lb:Nat) (f:Fm) (sp np bp pp:Option Nat) (r:Int):Prop :=
 (r=0/\Zo w' fb { f with part:=4 } lb sp np bp pp)\/(r≠0/\∃ pb,w.heap.size<=pb/\Zo w' fb (f.splice c r) lb sp np bp (some pb)/\Zm w' pb (Sp.new c f.l.three.1 f.l.three.2.1 r))
def Aft5 (w w':World) (m:Md) (b:Nat) (dv fv:Value) (fb lb bb:Nat) (f:Fm) (sp np pp:Option Nat) (Bb:List Nat) (y:Bd) (e:Ending):Prop :=
 (y.line≠0/\e = .returned (.bool false)/\Z4 w' b m dv fv/\Zo w' fb f lb sp np (some bb) pp/\∃ B',Ra w' B' bb y/\∀ k,k∈B'->k∈Bb\/w.heap.size<=k) \/
 (y.line=0/\y.e=0/\e = .returned (.bool false)/\Z4 w' b m dv fv/\∃ pb,w.heap.size<=pb/\Zo w' fb (f.splice m.c y.repl) lb sp np (some bb) (some pb)/\Zm w' pb (Sp.new m.c f.l.three.1 f.l.three.2.1 y.repl)) \/
 (y.line=0/\y.e≠0/\e = .returned (.bool true)/\Z4 w' b { m with e:=y.e } dv (.slice none 0 0))
theorem Uc {w:World} {B:List Nat} {b:Nat} {x:Bd} (h:Ra w B b x):w.cell? ⟨b,18,none⟩=some (.int .i64 x.repl)/\w.cell? ⟨b,19,none⟩=some (.int .i64 x.e):=by obtain ⟨vv,lv,gv,wv,ss,h,-⟩:=h;exact ⟨h.o.cell rfl,h.o.cell rfl⟩
def Aft1 (w w':World) (m:Md) (b:Nat) (dv fv:Value) (fb lb:Nat) (f:Fm) (sp np bp pp:Option Nat) (y:Ld):Prop :=
 (∃ dv',Sq fI w' dv' (if y.drew=true/\f.l.drew=false/\m.draws≠[] then m.draws.tail else m.draws)/\(∀ k,k∈dv'.ownBlock.toList->k∈dv.ownBlock.toList)/\Z4 w' b m dv' fv) /\
 ((y.line=0/\∃ sb,w.heap.size<=sb/\Zo w' fb { f with part:=2 } lb (some sb) np bp pp/\Y4 w' sb (Sl.new m.c y.three.1 y.three.2.1))\/(y.line≠0/\Zo w' fb f lb sp np bp pp))
def qd3 (w w':World) (m:Md) (fb lb nb:Nat) (f:Fm) (sp bp pp:Option Nat) (lv:Value) (y:Nd):Prop :=
 (y.line≠0/\Zo w' fb f lb sp (some nb) bp pp/\∃ lv',Vg w' nb { y with lv:=lv' } /\ Sq fI w' lv' y.l/\(lv'=lv\/(y.l≠[]/\∀ g,g∈lv'.ownBlock.toList->w.heap.size<=g))) \/
 (y.line=0/\∃ bb B,w.heap.size<=bb/\Zo w' fb { f with part:=5 } lb sp (some nb) (some bb) pp/\Ra w' B bb (Bd.new m.c f.l.three.1 f.l.three.2.1 f.l.three.2.2 y.l)/\∀ k,k∈B->k∈lv.ownBlock.toList\/w.heap.size<=k)
def qcz (w w':World) (m:Md) (b:Nat) (dv fv:Value) (ifb:List Nat) (fb lb pb:Nat) (f:Fm) (sp np bp:Option Nat) (y:Sp):Prop :=
 (y.line≠0/\Z4 w' b m dv fv/\Zo w' fb f lb sp np bp (some pb)/\Zm w' pb y) \/
 (y.line=0/\y.stuck=0/\∃ fv',Z4 w' b m dv fv'/\Sq fP w' fv' ifb/\(∀ k,k∈fv'.ownBlock.toList->k∈fv.ownBlock.toList)) \/
 (y.line=0/\y.stuck≠0/\∃ pb2 fv' fb2 lb2,Z4 w' b m dv fv'/\Sq fP w' fv' ((ifb++[fb])++[fb2])/\Zo w' fb (f.splice m.c f.repl) lb sp np bp (some pb2)/\Zm w' pb2 (Sp.new m.c f.l.three.1 f.l.three.2.1 f.repl)/\Zo w' fb2 (Fm.new m.c y.stuck (J9 m.draws)) lb2 none none none none/\yd w' lb2 (Ld.new m.c y.stuck (J9 m.draws)) /\
  w.heap.size<=pb2/\w.heap.size<=fb2/\w.heap.size<=lb2/\pb2<fb2/\pb2<lb2/\fb2≠lb2/\(∀ k,k∈fv'.ownBlock.toList->pb2<k/\k<w'.heap.size/\k≠fb2/\k≠lb2))
theorem q85 {w:World} {b:Nat} {x:Sp} (h:Zm w b x):w.cell? ⟨b,12,none⟩=some (.int .i64 x.stuck):=h.cell rfl
theorem qd3.mono {w0 w w':World} {m:Md} {fb lb nb:Nat} {f:Fm} {sp bp pp:Option Nat} {lv:Value} {y:Nd} (h:qd3 w w' m fb lb nb f sp bp pp lv y) (hs:w0.heap.size<=w.heap.size):qd3 w0 w' m fb lb nb f sp bp pp lv y:=by
 rcases h with ⟨h1,h2,lv',h3,h4,h5⟩ | ⟨h1,bb,B,h2,h3,h4,h5⟩
 ·exact .inl ⟨h1,h2,lv',h3,h4,h5.imp id (fun ⟨a,c⟩=>⟨a,fun g hg=>qh hs (c g hg)⟩)⟩
 ·exact .inr ⟨h1,bb,B,qh hs h2,h3,h4,fun k hk=>(h5 k hk).imp id (fun e=>qh hs e)⟩
theorem qcz.mono {w0 w w':World} {m:Md} {b:Nat} {dv fv:Value} {ifb:List Nat} {fb lb pb:Nat} {f:Fm} {sp np bp:Option Nat} {y:Sp} (h:qcz w w' m b dv fv ifb fb lb pb f sp np bp y) (hs:w0.heap.size<=w.heap.size):qcz w0 w' m b dv fv ifb fb lb pb f sp np bp y:=by
 rcases h with h | h | ⟨h1,h2,pb2,fv',fb2,lb2,h3,h4,h5,h6,h7,h8,g1,g2,g3,g4⟩
 ·exact .inl h
 ·exact .inr (.inl h)
 ·exact .inr (.inr ⟨h1,h2,pb2,fv',fb2,lb2,h3,h4,h5,h6,h7,h8,by omega,by omega,by omega,g4⟩)
def Yp (y:Sp) (ifb:List Nat):Bool:=decide (y.line=0/\y.stuck=0/\ifb=[])
theorem qaf (m:Md) (f:Fm) (hpt:f.part=2) (x:Sl) (hxc:x.c.Ok) (sb:Nat) (b fb lb p q:Nat) (sp np bp pp:Option Nat) (dv fv:Value) (ifb:List Nat) (s:St) (w:World) (h:Z4 w b m dv fv) (hF:Sq fP w fv (ifb++[fb])) (hlen:ifb.length<=10000000) (hf:Zo w fb f lb sp np bp pp) (hL:yd w lb f.l) (hA:Rar w p q s) (nbf:¬ b=fb) (nbl:¬ b=lb) (nfl:¬ fb=lb) (nbp:¬ b=p) (nbq:¬ b=q) (nfp:¬ fb=p) (nfq:¬ fb=q) (nlp:¬ lb=p) (nlq:¬ lb=q) (hsp:sp=some sb) (hS:Y4 w sb x) (nsp:sb≠p) (nsq:sb≠q) (nbs:¬ b=sb) (nfs:¬ fb=sb) (nF:b∉fv.ownBlock.toList/\fb∉fv.ownBlock.toList/\lb∉fv.ownBlock.toList/\p∉fv.ownBlock.toList/\q∉fv.ownBlock.toList) :
  Calls Tryz.prog 87 #[.pointer (some ⟨b,0,none⟩),.pointer (some ⟨p,0,none⟩)] w fun e w'=>e = .returned (.bool false)/\Z4 w' b m dv fv/\Zo w' fb { f with part:=if (x.step s).1.line=0 then 3 else 2 } lb sp np bp pp/\Y4 w' sb (x.step s).1/\Rar w' p q (x.step s).2/\Fr [fb,sb,p,q] w w':=by
 subst hsp;generalize hy:x.step s=y;have HY:=q9 hy;generalize hf9:({ f with part:=if y.1.line=0 then 3 else 2 }:Fm)=f9;have HF9:=q9 hf9;have HPT:=q9 hpt;clear hy hf9;obtain ⟨av,cv,rfl,hcv,hmv,-⟩:=id hF;have hFl:(ifb++[fb]).length=ifb.length+1:=by simp
 rw [hFl] at h hF hcv nF ⊢;clear hFl;obtain ⟨gF,oF,rfl,cF⟩:=Z3 hF (show (ifb++[fb])[ifb.length]? = some fb by simp);obtain ⟨c0,c1,c2,c3,c4,c5,c6⟩:=zk h;have hge:¬ ((ifb.length:Int)+1=0):=by omega
 go_enter Tryz.func87,Tryz.ntmps87;go_wp2_with fail;have k5:=qb c5;have kF:=qb cF;clear c0 c1 c2 c3 c4 c5 c6 cF;refine wiq ?_;repeat (go_big_quiet_step (fail))
 refine wpQuiet_nil ?_;intro w1 F1;have h1:Z4 w1 b m dv (.slice (some ⟨gF,oF,none⟩) (ifb.length+1) cv):=Ob.up h F1;have f1:Zo w1 fb f lb (some sb) np bp pp:=Ob.up hf F1;have l1:yd w1 lb f.l:=Ob.up hL F1;have A1:=hA.kept F1;have x1:Y4 w1 sb x:=Ob.up hS F1;clear hS;clear k5 kF h hf hL hA hF;obtain ⟨c0,c1,c2,c3,c4,c5,c6⟩:=zk h1;obtain ⟨d0,d1,d2,d3,d4,d5,d6,d7,d8⟩:=zq f1;rw [hpt] at d1;clear hpt;have z:=h1.frozen;have zf:=f1.frozen;unfold vg at d3;simp only at d3;go_wp2_with fail;clear c0 c1 c2 c3 c4 c5 c6 d0 d1 d2 d3 d4 d5 d6 d7 d8 z zf;refine (q6t x hxc sb p q s w1 x1 A1 nsp nsq).mono ?_;rintro e w2 ⟨rfl,x2,A2,F2⟩;rw [HY.out] at x2 A2 ⊢;have h2:Z4 w2 b m dv (.slice (some ⟨gF,oF,none⟩) (ifb.length+1) cv):=Ob.kept h1 F2 (by simp;exact ⟨nbs,nbp,nbq⟩);have f2:Zo w2 fb f lb (some sb) np bp pp:=Ob.kept f1 F2 (by simp;exact ⟨nfs,nfp,nfq⟩);have D2:Fr [fb,sb,p,q] w w2:=(F1.mono).trans (F2.mono);clear h1 f1 l1 A1 x1 F1 F2;obtain ⟨c0,c1,c2,c3,c4,c5,c6⟩:=zk h2;obtain ⟨d0,d1,d2,d3,d4,d5,d6,d7,d8⟩:=zq f2;have z:=h2.frozen;have zf:=f2.frozen;obtain ⟨y1,y2⟩:=y;by_cases hl0:y1.line=0
 ·have g0:decide (y1.line=0)=true:=by simpa using hl0
  simp only [g0];have HN:=q9 (show f9 = { f with part:=3 } by rw [<- HF9.out];simp only;rw [qf hl0]);have HX:=q9 x2;clear x2 hl0 g0;go_wp2_with fail;go_ret;rw [HN.out];exact ⟨rfl,Ob.other h2 nbf _,Ob.set f2 _,Ob.other HX.out (Ne.symm nfs) _,Rar.set A2 nfp nfq _,D2.trans (Fr.setCell _ Lc)⟩
 ·have g0:decide (y1.line=0)=false:=by simpa using hl0
  simp only [g0];have HN:=q9 (show f9=f by rw [<- HF9.out];simp only;rw [qd hl0,<- HPT.out]);have HX:=q9 x2;clear x2 hl0 g0;go_wp2_with fail;go_ret;exact ⟨rfl,h2,by rw [HN.out];exact f2,HX.out,A2,D2⟩
theorem qc0 (m:Md) (f:Fm) (hpt:f.part=3) (hc:m.c.Ok) (b fb lb p q:Nat) (sp np bp pp:Option Nat) (dv fv:Value) (ifb:List Nat) (s:St) (w:World) (h:Z4 w b m dv fv) (hF:Sq fP w fv (ifb++[fb])) (hlen:ifb.length<=10000000) (hf:Zo w fb f lb sp np bp pp) (hL:yd w lb f.l) (hA:Rar w p q s) (nbf:¬ b=fb) (nbl:¬ b=lb) (nfl:¬ fb=lb) (nbp:¬ b=p) (nbq:¬ b=q) (nfp:¬ fb=p) (nfq:¬ fb=q) (nlp:¬ lb=p) (nlq:¬ lb=q) (nF:b∉fv.ownBlock.toList/\fb∉fv.ownBlock.toList/\lb∉fv.ownBlock.toList/\p∉fv.ownBlock.toList/\q∉fv.ownBlock.toList) :
  Calls Tryz.prog 87 #[.pointer (some ⟨b,0,none⟩),.pointer (some ⟨p,0,none⟩)] w fun e w'=>e = .returned (.bool false)/\Z4 w' b m dv fv/\yd w' lb f.l/\AftR w w' m.c fb lb f sp np bp pp (qw s.l (wrap64 (f.l.three.1+5)))/\Rar w' p q (s.load (wrap64 (f.l.three.1+5)))/\Fr [fb,p,q] w w':=by
 generalize hr:qw s.l (wrap64 (f.l.three.1+5))=r;have HR:=q9 hr;clear hr;obtain ⟨av,cv,rfl,hcv,hmv,-⟩:=id hF;have hFl:(ifb++[fb]).length=ifb.length+1:=by simp
 rw [hFl] at h hF hcv nF ⊢;clear hFl;obtain ⟨gF,oF,rfl,cF⟩:=Z3 hF (show (ifb++[fb])[ifb.length]? = some fb by simp);obtain ⟨c0,c1,c2,c3,c4,c5,c6⟩:=zk h;have hge:¬ ((ifb.length:Int)+1=0):=by omega
 go_enter Tryz.func87,Tryz.ntmps87;go_wp2_with fail;have k5:=qb c5;have kF:=qb cF;clear c0 c1 c2 c3 c4 c5 c6 cF;refine wiq ?_;repeat (go_big_quiet_step (fail))
 refine wpQuiet_nil ?_;intro w1 F1;have h1:Z4 w1 b m dv (.slice (some ⟨gF,oF,none⟩) (ifb.length+1) cv):=Ob.up h F1;have f1:Zo w1 fb f lb sp np bp pp:=Ob.up hf F1;have l1:yd w1 lb f.l:=Ob.up hL F1;have A1:=hA.kept F1;clear k5 kF h hf hL hA hF;obtain ⟨c0,c1,c2,c3,c4,c5,c6⟩:=zk h1;obtain ⟨d0,d1,d2,d3,d4,d5,d6,d7,d8⟩:=zq f1;rw [hpt] at d1;clear hpt;have z:=h1.frozen;have zf:=f1.frozen;go_wp2_with fail;clear c0 c1 c2 c3 c4 c5 c6 d0 d1 d2 d3 d4 d5 d6 d7 d8 z zf;refine (Qq f.l lb w1 l1).mono ?_;rintro e w2 ⟨rfl,F2⟩;have h2:=Ob.up h1 F2;have f2:=Ob.up f1 F2;have l2:=Ob.up l1 F2;have A2:=A1.kept F2;have D2:=F1.trans F2;clear h1 f1 l1 A1 F1 F2;obtain ⟨d0,d1,d2,d3,d4,d5,d6,d7,d8⟩:=zq f2;have zf:=f2.frozen;go_wp2_with fail;have h3:=Ob.other h2 nbf (i:=1) (.int .i64 4);have f3:Zo _ fb { f with part:=4 } lb sp np bp pp:=Ob.set f2 (i:=1) (.int .i64 4);have l3:=Ob.other l2 (Ne.symm nfl) (i:=1) (.int .i64 4);have A3:=Rar.set A2 nfp nfq (i:=1) (.int .i64 4);have D3:Fr [fb,p,q] w (w2.setCell ⟨fb,1,none⟩ (.int .i64 4)):=(D2.mono).trans (Fr.setCell _ Lc);clear d0 d1 d2 d3 d4 d5 d6 d7 d8 zf h2 f2 l2 A2 D2;generalize (w2.setCell ⟨fb,1,none⟩ (.int .i64 4))=w3 at *;refine (Ref.zl _ p q s _ A3).mono ?_;rintro e w4 ⟨rfl,A4,F4⟩;have h4:=Ob.kept h3 F4 (by simp;exact ⟨nbp,nbq⟩);have f4:=Ob.kept f3 F4 (by simp;exact ⟨nfp,nfq⟩);have l4:=Ob.kept l3 F4 (by simp;exact ⟨nlp,nlq⟩);have D4:=D3.trans (F4.mono (T:=[fb,p,q]) Lc);rw [HR.out];clear h3 f3 l3 A3 D3 F4;obtain ⟨c0,c1,c2,c3,c4,c5,c6⟩:=zk h4;have z:=h4.frozen;by_cases hr0:r=0
 ·have HR0:=q9 hr0;have g0:(r != 0)=false:=by simpa using hr0
  clear hr0;go_wp2_with fail;go_ret;exact ⟨rfl,h4,l4,.inl ⟨HR0.out,f4⟩,A4,D4⟩
 ·have g0:(r != 0)=true:=by simpa using hr0
  have hr1:=q9 hr0;clear hr0;go_wp2_with fail;clear g0 c0 c1 c2 c3 c4 c5 c6 z;refine (Xh { f with part:=4 } m.c hc r fb lb sp np bp pp w4 f4 l4).mono ?_;rintro e w5 ⟨rfl,⟨pb,hpb,f5,p5⟩,F5⟩;have h5:=Ob.kept h4 F5 (by simp;exact nbf);have l5:=Ob.kept l4 F5 Oe;have A5:=A4.kept F5 Oh Oi;have D5:=D4.trans (F5.mono (T:=[fb,p,q]) Lc);have HPB:=q9 (qh D4.size hpb);clear h4 f4 l4 A4 D4 F5 hpb;obtain ⟨c0,c1,c2,c3,c4,c5,c6⟩:=zk h5;go_wp2_with fail;go_ret;exact ⟨rfl,h5,l5,.inr ⟨hr1.out,pb,HPB.out,f5,p5⟩,A5,D5⟩
theorem qbt (m:Md) (f:Fm) (hpt:f.part=5) (hc:m.c.Ok) (x:Bd) (hx:Zg x) (bb:Nat) (Bb:List Nat) (b fb lb p q:Nat) (sp np bp pp:Option Nat) (dv fv:Value) (ifb:List Nat) (s:St) (w:World) (h:Z4 w b m dv fv) (hF:Sq fP w fv (ifb++[fb])) (hlen:ifb.length<=10000000) (hf:Zo w fb f lb sp np bp pp) (hL:yd w lb f.l) (hA:Rar w p q s) (nbf:¬ b=fb) (nbl:¬ b=lb) (nfl:¬ fb=lb) (nbp:¬ b=p) (nbq:¬ b=q) (nfp:¬ fb=p) (nfq:¬ fb=q) (nlp:¬ lb=p) (nlq:¬ lb=q) (hbp:bp=some bb) (hB:Ra w Bb bb x) (nB:b∉Bb/\fb∉Bb/\lb∉Bb/\p∉Bb/\q∉Bb) (nF:b∉fv.ownBlock.toList/\fb∉fv.ownBlock.toList/\lb∉fv.ownBlock.toList/\p∉fv.ownBlock.toList/\q∉fv.ownBlock.toList) :
  Calls Tryz.prog 87 #[.pointer (some ⟨b,0,none⟩),.pointer (some ⟨p,0,none⟩)] w fun e w'=>Aft5 w w' m b dv fv fb lb bb f sp np pp Bb (x.step s).1 e/\yd w' lb f.l/\Rar w' p q (x.step s).2/\Fr (b :: fb :: p :: q :: Bb) w w':=by
 subst hbp;generalize hy:x.step s=y;have HY:=q9 hy;have HFv:=q9 (Eq.refl fv);clear hy;obtain ⟨y1,y2⟩:=y;obtain ⟨av,cv,rfl,hcv,hmv,-⟩:=id hF;have hFl:(ifb++[fb]).length=ifb.length+1:=by simp
 rw [hFl] at h hF hcv nF ⊢;clear hFl;obtain ⟨gF,oF,rfl,cF⟩:=Z3 hF (show (ifb++[fb])[ifb.length]? = some fb by simp);obtain ⟨c0,c1,c2,c3,c4,c5,c6⟩:=zk h;have hge:¬ ((ifb.length:Int)+1=0):=by omega
 go_enter Tryz.func87,Tryz.ntmps87;go_wp2_with fail;have k5:=qb c5;have kF:=qb cF;clear c0 c1 c2 c3 c4 c5 c6 cF;refine wiq ?_;repeat (go_big_quiet_step (fail))
 refine wpQuiet_nil ?_;intro w1 F1;have h1:Z4 w1 b m dv (.slice (some ⟨gF,oF,none⟩) (ifb.length+1) cv):=Ob.up h F1;have f1:Zo w1 fb f lb sp np (some bb) pp:=Ob.up hf F1;have l1:yd w1 lb f.l:=Ob.up hL F1;have A1:=hA.kept F1;have x1:Ra w1 Bb bb x:=hB.kept F1 Lc;clear hB;clear k5 kF h hf hL hA hF;obtain ⟨c0,c1,c2,c3,c4,c5,c6⟩:=zk h1;obtain ⟨d0,d1,d2,d3,d4,d5,d6,d7,d8⟩:=zq f1;rw [hpt] at d1;clear hpt;have z:=h1.frozen;have zf:=f1.frozen;unfold vg at d6;simp only at d6;go_wp2_with fail;clear c0 c1 c2 c3 c4 c5 c6 d0 d1 d2 d3 d4 d5 d6 d7 d8 z zf;refine (q4g x hx Bb bb p q s w1 x1 A1 nB.2.2.2.1 nB.2.2.2.2).mono ?_;rintro e w2 ⟨rfl,⟨B',x2,sub⟩,A2,F2⟩;have h2:=Ob.kept h1 F2 (by simp;exact ⟨nbp,nbq,nB.1⟩);have f2:=Ob.kept f1 F2 (by simp;exact ⟨nfp,nfq,nB.2.1⟩);have l2:=Ob.kept l1 F2 (by simp;exact ⟨nlp,nlq,nB.2.2.1⟩);have D2:Fr (b :: fb :: p :: q :: Bb) w w2:=(F1.mono).trans (F2.mono Ms);have HSB:=q9 (fun k hk=>(sub k hk).imp id (fun e=>qh F1.size e));rw [HY.out] at x2 A2 ⊢;simp only at x2 A2 ⊢;clear h1 f1 l1 A1 x1 F1 F2 sub;obtain ⟨c0,c1,c2,c3,c4,c5,c6⟩:=zk h2;obtain ⟨d0,d1,d2,d3,d4,d5,d6,d7,d8⟩:=zq f2;unfold vg at d6;simp only at d6;obtain ⟨u18,u19⟩:=Uc x2;have z:=h2.frozen;have zf:=f2.frozen;have HX:=q9 x2;clear x2;by_cases hl0:y1.line=0
 ·have g0:decide (y1.line=0)=true:=by simpa using hl0
  rw [g0];have HL0:=q9 hl0;clear hl0 g0;by_cases he0:y1.e=0
  ·have ge:(y1.e != 0)=false:=by simpa using he0
   have HE0:=q9 he0;clear he0;go_wp2_with fail;clear c0 c1 c2 c3 c4 c5 c6 d0 d1 d2 d3 d4 d5 d6 d7 d8 z zf ge u18 u19;refine qp Le ?_;refine za [] w2 #[true,true,true,true,true,true,true,true,true,true,true,true,false] 12 1 rfl ?_;refine ja [true,true,true,true,true,true,true,true,true,true,true,true,false] 0 (n:=200) (listed':=#[true,true,true,true,true,true,true,true,true,true,true,true,false]) rfl Le Le Le Le rfl Le (fun _ _ d _ _ h=>by cases d <;> exact h) ((Fr.refl _ w2).drew) ?_;apply qg;refine ⟨fun wf Ff=>?_,?_⟩
   ·obtain ⟨c0,c1,c2,c3,-,-,-⟩:=zk (Ob.up h2 Ff);obtain ⟨-,-,-,-,-,-,d6,-,-⟩:=zq (Ob.up f2 Ff);unfold vg at d6;simp only at d6;obtain ⟨u18,-⟩:=Uc (HX.out.kept Ff Lc);have k0:=qb c0;have k1:=qb c1;have k2:=qb c2;have k3:=qb c3;have k6:=qb d6;have k18:=qb u18;clear c0 c1 c2 c3 d6 u18;exact Ab
   refine qy (k:=12) rfl Le (fun w3 F3=>?_);have F23:=((Fr.refl [] w2).drew).trans F3;have h3:=Ob.up h2 F23;have f3:=Ob.up f2 F23;have l3:=Ob.up l2 F23;have A3:=A2.kept F23;have D3:=D2.then F23;clear h2 f2 l2 A2 D2 F3 F23;go_wp2_with fail;refine (Xh f m.c hc y1.repl fb lb sp np (some bb) pp w3 f3 l3).mono ?_;rintro e w5 ⟨rfl,⟨pb,hpb,f5,p5⟩,F5⟩;have h5:=Ob.kept h3 F5 (by simp;exact nbf);have l5:=Ob.kept l3 F5 Oe;have A5:=A3.kept F5 Oh Oi;have D5:=D3.trans (F5.mono (T:=b :: fb :: p :: q :: Bb) Lc);have HPB:=q9 (qh D3.size hpb);clear h3 f3 l3 A3 D3 F5 hpb;obtain ⟨c0,c1,c2,c3,c4,c5,c6⟩:=zk h5;go_wp2_with fail;go_ret;exact ⟨.inr (.inl ⟨HL0.out,HE0.out,rfl,h5,pb,HPB.out,f5,p5⟩),l5,A5,D5⟩
  have ge:(y1.e != 0)=true:=by simpa using he0
  have HE0:=q9 he0;clear he0;go_wp2_with fail;go_ret;exact ⟨.inr (.inr ⟨HL0.out,HE0.out,rfl,Ob.set (Ob.set h2 _) (i:=5) (.slice none 0 0)⟩),Ob.other (Ob.other l2 (Ne.symm nbl) _) (Ne.symm nbl) _,Rar.set (Rar.set A2 nbp nbq _) nbp nbq (i:=5) (.slice none 0 0),(D2.trans (Fr.setCell _ Lc)).setCell' _ Lc⟩
 ·have g0:decide (y1.line=0)=false:=by simpa using hl0
  rw [g0];have HL0:=q9 hl0;clear hl0 g0 u18 u19;go_wp2_with fail;go_ret;exact ⟨.inl ⟨HL0.out,rfl,h2,f2,B',HX.out,HSB.out⟩,l2,A2,D2⟩
theorem qbh (m:Md) (f:Fm) (hpt:f.part=1) (hc:m.c.Ok) (hlc:f.l.c.Ok) (b fb lb p q:Nat) (sp np bp pp:Option Nat) (dv fv:Value) (ifb:List Nat) (s:St) (w:World) (h:Z4 w b m dv fv) (hF:Sq fP w fv (ifb++[fb])) (hlen:ifb.length<=10000000) (hf:Zo w fb f lb sp np bp pp) (hL:yd w lb f.l) (hA:Rar w p q s) (nbf:¬ b=fb) (nbl:¬ b=lb) (nfl:¬ fb=lb) (nbp:¬ b=p) (nbq:¬ b=q) (nfp:¬ fb=p) (nfq:¬ fb=q) (nlp:¬ lb=p) (nlq:¬ lb=q) (hD:Sq fI w dv m.draws) (nD:b∉dv.ownBlock.toList/\fb∉dv.ownBlock.toList/\lb∉dv.ownBlock.toList/\p∉dv.ownBlock.toList/\q∉dv.ownBlock.toList) (nF:b∉fv.ownBlock.toList/\fb∉fv.ownBlock.toList/\lb∉fv.ownBlock.toList/\p∉fv.ownBlock.toList/\q∉fv.ownBlock.toList) :
  Calls Tryz.prog 87 #[.pointer (some ⟨b,0,none⟩),.pointer (some ⟨p,0,none⟩)] w fun e w'=>Aft1 w w' m b dv fv fb lb f sp np bp pp (f.l.step s).1/\yd w' lb (f.l.step s).1/\Rar w' p q (f.l.step s).2/\Fr [b,fb,lb,p,q] w w'/\e = .returned (.bool false):=by
 generalize hy:f.l.step s=y;have HY:=q9 hy;clear hy;obtain ⟨y1,y2⟩:=y;obtain ⟨ad,cd,rfl,hcd,hmd,-⟩:=id hD;obtain ⟨av,cv,rfl,hcv,hmv,-⟩:=id hF;have hFl:(ifb++[fb]).length=ifb.length+1:=by simp
 rw [hFl] at h hF hcv nF ⊢;clear hFl;obtain ⟨gF,oF,rfl,cF⟩:=Z3 hF (show (ifb++[fb])[ifb.length]? = some fb by simp);obtain ⟨c0,c1,c2,c3,c4,c5,c6⟩:=zk h;have hge:¬ ((ifb.length:Int)+1=0):=by omega
 go_enter Tryz.func87,Tryz.ntmps87;go_wp2_with fail;have k5:=qb c5;have kF:=qb cF;clear c0 c1 c2 c3 c4 c5 c6 cF;refine wiq ?_;repeat (go_big_quiet_step (fail))
 refine wpQuiet_nil ?_;intro w1 F1;have h1:Z4 w1 b m (Value.slice ad m.draws.length cd) (.slice (some ⟨gF,oF,none⟩) (ifb.length+1) cv):=Ob.up h F1;have f1:Zo w1 fb f lb sp np bp pp:=Ob.up hf F1;have l1:yd w1 lb f.l:=Ob.up hL F1;have A1:=hA.kept F1;have HD1:=q9 (hD.up F1);clear hD;clear k5 kF h hf hL hA hF;obtain ⟨c0,c1,c2,c3,c4,c5,c6⟩:=zk h1;obtain ⟨d0,d1,d2,d3,d4,d5,d6,d7,d8⟩:=zq f1;rw [hpt] at d1;clear hpt;have z:=h1.frozen;have zf:=f1.frozen;obtain ⟨-,-,-,-,-,-,e6,-,-,-,-,-,-,-⟩:=ze l1;go_wp2_with fail;clear c0 c1 c2 c3 c4 c5 c6 d0 d1 d2 d3 d4 d5 d6 d7 d8 z zf e6;refine (q7h f.l hlc lb p q s w1 l1 A1 nlp nlq).mono ?_;rintro e w2 ⟨rfl,l2,A2,F2⟩;have h2:=Ob.kept h1 F2 (by simp;exact ⟨nbl,nbp,nbq⟩);have f2:=Ob.kept f1 F2 (by simp;exact ⟨nfl,nfp,nfq⟩);have D2:Fr [b,fb,lb,p,q] w w2:=(F1.mono).trans (F2.mono);have HD2:=q9 (HD1.out.kept F2 (fun k hk hi=>by simp only [List.mem_cons,List.not_mem_nil,or_false] at hi;rcases hi with rfl | rfl | rfl;exact nD.2.2.1 hk;exact nD.2.2.2.1 hk;exact nD.2.2.2.2 hk));rw [HY.out] at l2 A2 ⊢;simp only at l2 A2 ⊢;clear h1 f1 l1 A1 F1 F2 HD1;obtain ⟨-,-,-,-,-,-,e6,-,-,-,-,-,-,-⟩:=ze l2;obtain ⟨c0,c1,c2,c3,c4,c5,c6⟩:=zk h2;obtain ⟨d0,d1,d2,d3,d4,d5,d6,d7,d8⟩:=zq f2;have z:=h2.frozen;by_cases hl0:y1.line=0
 ·have g0:decide (y1.line=0)=true:=by simpa using hl0
  rw [g0];have HL0:=q9 hl0;clear hl0 g0;cases hdw:y1.drew
  focus
   rw [hdw] at e6
   have HDW:=q9 hdw
   clear hdw
   go_wp2_with fail
   clear c0 c1 c2 c3 c4 c5 c6 d0 d1 d2 d3 d4 d5 d6 d7 d8 z e6
   have HDV:=q9 (fun W (F:Fr [fb] w2 W)=>(show Sq fI W (Value.slice ad m.draws.length cd) (if y1.drew=true/\f.l.drew=false/\m.draws≠[] then m.draws.tail else m.draws) by rw [qd (by rw [HDW.out];simp)];exact HD2.out.kept F (fun k hk hi=>by simp at hi;subst hi;exact nD.2.1 hk)))
  rotate_left
  focus
   rw [hdw] at e6
   have HDW:=q9 hdw
   clear hdw
   cases hws:f.l.drew
   ·have HWS:=q9 hws
    clear hws
    by_cases hz:m.draws.length=0
    ·have hzz:((m.draws.length:Nat):Int)=0:=by omega
     have HZ:=q9 (List.eq_nil_of_length_eq_zero hz)
     clear hz
     go_wp2_with fail
     clear c0 c1 c2 c3 c4 c5 c6 d0 d1 d2 d3 d4 d5 d6 d7 d8 z e6 hzz
     have HDV:=q9 (fun W (F:Fr [fb] w2 W)=>(show Sq fI W (Value.slice ad m.draws.length cd) (if y1.drew=true/\f.l.drew=false/\m.draws≠[] then m.draws.tail else m.draws) by rw [qd (by rw [HZ.out];simp)];exact HD2.out.kept F (fun k hk hi=>by simp at hi;subst hi;exact nD.2.1 hk)))
     have HSUB:=q9 (fun (k:Nat) (hk:k∈(Value.slice ad m.draws.length cd).ownBlock.toList)=>hk)
     have h3:=h2
     have f3:=f2
     have l3:=l2
     have A3:=A2
     have D3:=D2
     clear h2 f2 l2 A2 D2
     obtain ⟨d0,d1,d2,d3,d4,d5,d6,d7,d8⟩:=zq f3
     have zf:=f3.frozen
     clear d0 d1 d2 d3 d4 d5 d6 d7 d8 zf
     refine (Qq y1 lb _ l3).mono ?_;rintro e w4 ⟨rfl,F4⟩
     have h4:=Ob.up h3 F4
     have f4:=Ob.up f3 F4
     have l4:=Ob.up l3 F4
     have A4:=A3.kept F4
     have D4:=D3.then F4
     have HF4:=q9 F4
     clear h3 f3 l3 A3 D3 F4
     obtain ⟨c0,c1,c2,c3,c4,c5,c6⟩:=zk h4
     obtain ⟨d0,d1,d2,d3,d4,d5,d6,d7,d8⟩:=zq f4
     have zf:=f4.frozen
     go_wp2_with fail
     clear c0 c1 c2 c3 c4 c5 c6 d0 d1 d2 d3 d4 d5 d6 d7 d8 zf
     refine (Va m.c y1.three.1 y1.three.2.1 w4).mono ?_;rintro e w5 ⟨sb,rfl,hsb,s5,F5⟩
     have h5:=Ob.up h4 F5
     have f5:=Ob.up f4 F5
     have l5:=Ob.up l4 F5
     have A5:=A4.kept F5
     have D5:=D4.then F5
     have HS:=q9 (qh D4.size hsb)
     have nfs:¬ fb=sb:=by have:=Ob.lt f4;omega
     have HF5:=q9 (HF4.out.trans F5)
     clear h4 f4 l4 A4 D4 F5 hsb
     obtain ⟨c0,c1,c2,c3,c4,c5,c6⟩:=zk h5
     obtain ⟨d0,d1,d2,d3,d4,d5,d6,d7,d8⟩:=zq f5
     have zf:=f5.frozen
     go_wp2_with fail
     go_ret
     exact ⟨⟨⟨_,HDV.out _ ((HF5.out.mono Lc).trans ((Fr.setCell _ Lc).setCell' _ Lc)),HSUB.out,Ob.other (Ob.other h5 nbf _) nbf _⟩,.inl ⟨HL0.out,sb,HS.out,Ob.set (Ob.set f5 _) (i:=3) (.pointer (some ⟨sb,0,none⟩)),Ob.other (Ob.other s5 (Ne.symm nfs) _) (Ne.symm nfs) _⟩⟩,Ob.other (Ob.other l5 (Ne.symm nfl) _) (Ne.symm nfl) _,Rar.set (Rar.set A5 nfp nfq _) nfp nfq (i:=3) (.pointer (some ⟨sb,0,none⟩)),(D5.trans (Fr.setCell _ Lc)).setCell' _ Lc,rfl⟩
    have hzz:(0:Int)<((m.draws.length:Nat):Int):=by omega
    obtain ⟨d,hd⟩:∃ d,m.draws[0]? = some d:=⟨m.draws[0]'(by omega),List.getElem?_eq_getElem _⟩
    obtain ⟨gd,od,rfl,d0⟩:=Zx HD2.out hd
    have HZ:=q9 hz
    clear hz hd d0
    by_cases hcd1:cd=1
    focus
     subst hcd1
     go_wp2_with fail
     clear c0 c1 c2 c3 c4 c5 c6 d0 d1 d2 d3 d4 d5 d6 d7 d8 z e6 hzz
     have S2:=(show Sq fI w2 (.slice (some ⟨gd,od,none⟩) 0 0) m.draws.tail from by have h0:=HZ.out;rw [List.eq_nil_of_length_eq_zero (show m.draws.tail.length=0 by rw [List.length_tail];omega)];exact Sq.empty _ _ Lm)
     have h3:Z4 _ b m (.slice (some ⟨gd,od,none⟩) 0 0) _:=Ob.set h2 (i:=4) (.slice (some ⟨gd,od,none⟩) 0 0)
     have f3:=Ob.other f2 (Ne.symm nbf) (i:=4) (.slice (some ⟨gd,od,none⟩) 0 0)
     have l3:=Ob.other l2 (Ne.symm nbl) (i:=4) (.slice (some ⟨gd,od,none⟩) 0 0)
     have A3:=Rar.set A2 nbp nbq (i:=4) (.slice (some ⟨gd,od,none⟩) 0 0)
     have SB:Fr [b] w2 (w2.setCell ⟨b,4,none⟩ (.slice (some ⟨gd,od,none⟩) 0 0)):=Fr.setCell _ Lc
     have S3:=S2.kept SB (fun k hk hi=>by simp at hi;subst hi;exact nD.1 Lx)
     have D3:=D2.trans (SB.mono (T:=[b,fb,lb,p,q]) Lc)
     have HDV:=q9 (fun W (F:Fr [fb] (w2.setCell ⟨b,4,none⟩ (.slice (some ⟨gd,od,none⟩) 0 0)) W)=>(show Sq fI W (.slice (some ⟨gd,od,none⟩) 0 0) (if y1.drew=true/\f.l.drew=false/\m.draws≠[] then m.draws.tail else m.draws) by rw [qf ⟨HDW.out,HWS.out,fun e=>HZ.out Oj⟩];exact S3.kept F (fun k hk hi=>by simp at hi;subst hi;exact nD.2.1 Lx)))
     have HSUB:=q9 (fun (k:Nat) (hk:k∈(Value.ownBlock (.slice (some ⟨gd,od,none⟩) 0 0)).toList)=>(show k∈(Value.slice (some ⟨gd,od,none⟩) m.draws.length 1).ownBlock.toList by simpa [Value.ownBlock] using hk))
     clear h2 f2 l2 A2 D2 S2 S3 SB
     generalize (w2.setCell ⟨b,4,none⟩ (.slice (some ⟨gd,od,none⟩) 0 0))=w3 at *
    rotate_left
    focus
     go_wp2_with fail
     clear c0 c1 c2 c3 c4 c5 c6 d0 d1 d2 d3 d4 d5 d6 d7 d8 z e6 hzz
     have S2:=(show Sq fI w2 (.slice (some ⟨gd,od+1,none⟩) (m.draws.length - 1) (cd - 1)) m.draws.tail from by have h0:=Sq.drop yj HD2.out 1 (by have:=HZ.out;omega);rw [Nat.one_mul,List.drop_one] at h0;exact h0)
     have h3:Z4 _ b m (.slice (some ⟨gd,od+1,none⟩) (m.draws.length - 1) (cd - 1)) _:=Ob.set h2 (i:=4) (.slice (some ⟨gd,od+1,none⟩) (m.draws.length - 1) (cd - 1))
     have f3:=Ob.other f2 (Ne.symm nbf) (i:=4) (.slice (some ⟨gd,od+1,none⟩) (m.draws.length - 1) (cd - 1))
     have l3:=Ob.other l2 (Ne.symm nbl) (i:=4) (.slice (some ⟨gd,od+1,none⟩) (m.draws.length - 1) (cd - 1))
     have A3:=Rar.set A2 nbp nbq (i:=4) (.slice (some ⟨gd,od+1,none⟩) (m.draws.length - 1) (cd - 1))
     have SB:Fr [b] w2 (w2.setCell ⟨b,4,none⟩ (.slice (some ⟨gd,od+1,none⟩) (m.draws.length - 1) (cd - 1))):=Fr.setCell _ Lc
     have S3:=S2.kept SB (fun k hk hi=>by simp at hi;subst hi;exact nD.1 Lx)
     have D3:=D2.trans (SB.mono (T:=[b,fb,lb,p,q]) Lc)
     have HDV:=q9 (fun W (F:Fr [fb] (w2.setCell ⟨b,4,none⟩ (.slice (some ⟨gd,od+1,none⟩) (m.draws.length - 1) (cd - 1))) W)=>(show Sq fI W (.slice (some ⟨gd,od+1,none⟩) (m.draws.length - 1) (cd - 1)) (if y1.drew=true/\f.l.drew=false/\m.draws≠[] then m.draws.tail else m.draws) by rw [qf ⟨HDW.out,HWS.out,fun e=>HZ.out Oj⟩];exact S3.kept F (fun k hk hi=>by simp at hi;subst hi;exact nD.2.1 Lx)))
     have HSUB:=q9 (fun (k:Nat) (hk:k∈(Value.ownBlock (.slice (some ⟨gd,od+1,none⟩) (m.draws.length - 1) (cd - 1))).toList)=>(show k∈(Value.slice (some ⟨gd,od,none⟩) m.draws.length cd).ownBlock.toList by simpa [Value.ownBlock] using hk))
     clear h2 f2 l2 A2 D2 S2 S3 SB
     generalize (w2.setCell ⟨b,4,none⟩ (.slice (some ⟨gd,od+1,none⟩) (m.draws.length - 1) (cd - 1)))=w3 at *
    rotate_left
    all_goals
     obtain ⟨d0,d1,d2,d3,d4,d5,d6,d7,d8⟩:=zq f3
     have zf:=f3.frozen
     clear d0 d1 d2 d3 d4 d5 d6 d7 d8 zf
     refine (Qq y1 lb _ l3).mono ?_;rintro e w4 ⟨rfl,F4⟩
     have h4:=Ob.up h3 F4
     have f4:=Ob.up f3 F4
     have l4:=Ob.up l3 F4
     have A4:=A3.kept F4
     have D4:=D3.then F4
     have HF4:=q9 F4
     clear h3 f3 l3 A3 D3 F4
     obtain ⟨c0,c1,c2,c3,c4,c5,c6⟩:=zk h4
     obtain ⟨d0,d1,d2,d3,d4,d5,d6,d7,d8⟩:=zq f4
     have zf:=f4.frozen
     go_wp2_with fail
     clear c0 c1 c2 c3 c4 c5 c6 d0 d1 d2 d3 d4 d5 d6 d7 d8 zf
     refine (Va m.c y1.three.1 y1.three.2.1 w4).mono ?_;rintro e w5 ⟨sb,rfl,hsb,s5,F5⟩
     have h5:=Ob.up h4 F5
     have f5:=Ob.up f4 F5
     have l5:=Ob.up l4 F5
     have A5:=A4.kept F5
     have D5:=D4.then F5
     have HS:=q9 (qh D4.size hsb)
     have nfs:¬ fb=sb:=by have:=Ob.lt f4;omega
     have HF5:=q9 (HF4.out.trans F5)
     clear h4 f4 l4 A4 D4 F5 hsb
     obtain ⟨c0,c1,c2,c3,c4,c5,c6⟩:=zk h5
     obtain ⟨d0,d1,d2,d3,d4,d5,d6,d7,d8⟩:=zq f5
     have zf:=f5.frozen
     go_wp2_with fail
     go_ret
     exact ⟨⟨⟨_,HDV.out _ ((HF5.out.mono Lc).trans ((Fr.setCell _ Lc).setCell' _ Lc)),HSUB.out,Ob.other (Ob.other h5 nbf _) nbf _⟩,.inl ⟨HL0.out,sb,HS.out,Ob.set (Ob.set f5 _) (i:=3) (.pointer (some ⟨sb,0,none⟩)),Ob.other (Ob.other s5 (Ne.symm nfs) _) (Ne.symm nfs) _⟩⟩,Ob.other (Ob.other l5 (Ne.symm nfl) _) (Ne.symm nfl) _,Rar.set (Rar.set A5 nfp nfq _) nfp nfq (i:=3) (.pointer (some ⟨sb,0,none⟩)),(D5.trans (Fr.setCell _ Lc)).setCell' _ Lc,rfl⟩
   have HWS:=q9 hws
   clear hws
   go_wp2_with fail
   clear c0 c1 c2 c3 c4 c5 c6 d0 d1 d2 d3 d4 d5 d6 d7 d8 z e6
   have HDV:=q9 (fun W (F:Fr [fb] w2 W)=>(show Sq fI W (Value.slice ad m.draws.length cd) (if y1.drew=true/\f.l.drew=false/\m.draws≠[] then m.draws.tail else m.draws) by rw [qd (by rw [HWS.out];simp)];exact HD2.out.kept F (fun k hk hi=>by simp at hi;subst hi;exact nD.2.1 hk)))
  rotate_left
  all_goals
   have HSUB:=q9 (fun (k:Nat) (hk:k∈(Value.slice ad m.draws.length cd).ownBlock.toList)=>hk)
   have h3:=h2
   have f3:=f2
   have l3:=l2
   have A3:=A2
   have D3:=D2
   clear h2 f2 l2 A2 D2
   obtain ⟨d0,d1,d2,d3,d4,d5,d6,d7,d8⟩:=zq f3
   have zf:=f3.frozen
   clear d0 d1 d2 d3 d4 d5 d6 d7 d8 zf
   refine (Qq y1 lb _ l3).mono ?_;rintro e w4 ⟨rfl,F4⟩
   have h4:=Ob.up h3 F4
   have f4:=Ob.up f3 F4
   have l4:=Ob.up l3 F4
   have A4:=A3.kept F4
   have D4:=D3.then F4
   have HF4:=q9 F4
   clear h3 f3 l3 A3 D3 F4
   obtain ⟨c0,c1,c2,c3,c4,c5,c6⟩:=zk h4
   obtain ⟨d0,d1,d2,d3,d4,d5,d6,d7,d8⟩:=zq f4
   have zf:=f4.frozen
   go_wp2_with fail
   clear c0 c1 c2 c3 c4 c5 c6 d0 d1 d2 d3 d4 d5 d6 d7 d8 zf
   refine (Va m.c y1.three.1 y1.three.2.1 w4).mono ?_;rintro e w5 ⟨sb,rfl,hsb,s5,F5⟩
   have h5:=Ob.up h4 F5
   have f5:=Ob.up f4 F5
   have l5:=Ob.up l4 F5
   have A5:=A4.kept F5
   have D5:=D4.then F5
   have HS:=q9 (qh D4.size hsb)
   have nfs:¬ fb=sb:=by have:=Ob.lt f4;omega
   have HF5:=q9 (HF4.out.trans F5)
   clear h4 f4 l4 A4 D4 F5 hsb
   obtain ⟨c0,c1,c2,c3,c4,c5,c6⟩:=zk h5
   obtain ⟨d0,d1,d2,d3,d4,d5,d6,d7,d8⟩:=zq f5
   have zf:=f5.frozen
   go_wp2_with fail
   go_ret
   exact ⟨⟨⟨_,HDV.out _ ((HF5.out.mono Lc).trans ((Fr.setCell _ Lc).setCell' _ Lc)),HSUB.out,Ob.other (Ob.other h5 nbf _) nbf _⟩,.inl ⟨HL0.out,sb,HS.out,Ob.set (Ob.set f5 _) (i:=3) (.pointer (some ⟨sb,0,none⟩)),Ob.other (Ob.other s5 (Ne.symm nfs) _) (Ne.symm nfs) _⟩⟩,Ob.other (Ob.other l5 (Ne.symm nfl) _) (Ne.symm nfl) _,Rar.set (Rar.set A5 nfp nfq _) nfp nfq (i:=3) (.pointer (some ⟨sb,0,none⟩)),(D5.trans (Fr.setCell _ Lc)).setCell' _ Lc,rfl⟩
 ·have g0:decide (y1.line=0)=false:=by simpa using hl0
  rw [g0];have HL0:=q9 hl0;clear hl0 g0;cases hdw:y1.drew
  focus
   rw [hdw] at e6
   have HDW:=q9 hdw
   clear hdw
   go_wp2_with fail
   clear c0 c1 c2 c3 c4 c5 c6 d0 d1 d2 d3 d4 d5 d6 d7 d8 z e6
   have HDV:=q9 (fun W (F:Fr [fb] w2 W)=>(show Sq fI W (Value.slice ad m.draws.length cd) (if y1.drew=true/\f.l.drew=false/\m.draws≠[] then m.draws.tail else m.draws) by rw [qd (by rw [HDW.out];simp)];exact HD2.out.kept F (fun k hk hi=>by simp at hi;subst hi;exact nD.2.1 hk)))
  rotate_left
  focus
   rw [hdw] at e6
   have HDW:=q9 hdw
   clear hdw
   cases hws:f.l.drew
   ·have HWS:=q9 hws
    clear hws
    by_cases hz:m.draws.length=0
    ·have hzz:((m.draws.length:Nat):Int)=0:=by omega
     have HZ:=q9 (List.eq_nil_of_length_eq_zero hz)
     clear hz
     go_wp2_with fail
     clear c0 c1 c2 c3 c4 c5 c6 d0 d1 d2 d3 d4 d5 d6 d7 d8 z e6 hzz
     have HDV:=q9 (fun W (F:Fr [fb] w2 W)=>(show Sq fI W (Value.slice ad m.draws.length cd) (if y1.drew=true/\f.l.drew=false/\m.draws≠[] then m.draws.tail else m.draws) by rw [qd (by rw [HZ.out];simp)];exact HD2.out.kept F (fun k hk hi=>by simp at hi;subst hi;exact nD.2.1 hk)))
     have HSUB:=q9 (fun (k:Nat) (hk:k∈(Value.slice ad m.draws.length cd).ownBlock.toList)=>hk)
     have h3:=h2
     have f3:=f2
     have l3:=l2
     have A3:=A2
     have D3:=D2
     clear h2 f2 l2 A2 D2
     obtain ⟨d0,d1,d2,d3,d4,d5,d6,d7,d8⟩:=zq f3
     have zf:=f3.frozen
     go_ret
     exact ⟨⟨⟨_,HDV.out _ (Fr.refl _ _),HSUB.out,h3⟩,.inr ⟨HL0.out,f3⟩⟩,l3,A3,D3,rfl⟩
    have hzz:(0:Int)<((m.draws.length:Nat):Int):=by omega
    obtain ⟨d,hd⟩:∃ d,m.draws[0]? = some d:=⟨m.draws[0]'(by omega),List.getElem?_eq_getElem _⟩
    obtain ⟨gd,od,rfl,d0⟩:=Zx HD2.out hd
    have HZ:=q9 hz
    clear hz hd d0
    by_cases hcd1:cd=1
    ·subst hcd1
     go_wp2_with fail
     clear c0 c1 c2 c3 c4 c5 c6 d0 d1 d2 d3 d4 d5 d6 d7 d8 z e6 hzz
     have S2:=(show Sq fI w2 (.slice (some ⟨gd,od,none⟩) 0 0) m.draws.tail from by have h0:=HZ.out;rw [List.eq_nil_of_length_eq_zero (show m.draws.tail.length=0 by rw [List.length_tail];omega)];exact Sq.empty _ _ Lm)
     have h3:Z4 _ b m (.slice (some ⟨gd,od,none⟩) 0 0) _:=Ob.set h2 (i:=4) (.slice (some ⟨gd,od,none⟩) 0 0)
     have f3:=Ob.other f2 (Ne.symm nbf) (i:=4) (.slice (some ⟨gd,od,none⟩) 0 0)
     have l3:=Ob.other l2 (Ne.symm nbl) (i:=4) (.slice (some ⟨gd,od,none⟩) 0 0)
     have A3:=Rar.set A2 nbp nbq (i:=4) (.slice (some ⟨gd,od,none⟩) 0 0)
     have SB:Fr [b] w2 (w2.setCell ⟨b,4,none⟩ (.slice (some ⟨gd,od,none⟩) 0 0)):=Fr.setCell _ Lc
     have S3:=S2.kept SB (fun k hk hi=>by simp at hi;subst hi;exact nD.1 Lx)
     have D3:=D2.trans (SB.mono (T:=[b,fb,lb,p,q]) Lc)
     have HDV:=q9 (fun W (F:Fr [fb] (w2.setCell ⟨b,4,none⟩ (.slice (some ⟨gd,od,none⟩) 0 0)) W)=>(show Sq fI W (.slice (some ⟨gd,od,none⟩) 0 0) (if y1.drew=true/\f.l.drew=false/\m.draws≠[] then m.draws.tail else m.draws) by rw [qf ⟨HDW.out,HWS.out,fun e=>HZ.out Oj⟩];exact S3.kept F (fun k hk hi=>by simp at hi;subst hi;exact nD.2.1 Lx)))
     have HSUB:=q9 (fun (k:Nat) (hk:k∈(Value.ownBlock (.slice (some ⟨gd,od,none⟩) 0 0)).toList)=>(show k∈(Value.slice (some ⟨gd,od,none⟩) m.draws.length 1).ownBlock.toList by simpa [Value.ownBlock] using hk))
     clear h2 f2 l2 A2 D2 S2 S3 SB
     generalize (w2.setCell ⟨b,4,none⟩ (.slice (some ⟨gd,od,none⟩) 0 0))=w3 at *
     obtain ⟨d0,d1,d2,d3,d4,d5,d6,d7,d8⟩:=zq f3
     have zf:=f3.frozen
     go_ret
     exact ⟨⟨⟨_,HDV.out _ (Fr.refl _ _),HSUB.out,h3⟩,.inr ⟨HL0.out,f3⟩⟩,l3,A3,D3,rfl⟩
    go_wp2_with fail
    clear c0 c1 c2 c3 c4 c5 c6 d0 d1 d2 d3 d4 d5 d6 d7 d8 z e6 hzz
    have S2:=(show Sq fI w2 (.slice (some ⟨gd,od+1,none⟩) (m.draws.length - 1) (cd - 1)) m.draws.tail from by have h0:=Sq.drop yj HD2.out 1 (by have:=HZ.out;omega);rw [Nat.one_mul,List.drop_one] at h0;exact h0)
    have h3:Z4 _ b m (.slice (some ⟨gd,od+1,none⟩) (m.draws.length - 1) (cd - 1)) _:=Ob.set h2 (i:=4) (.slice (some ⟨gd,od+1,none⟩) (m.draws.length - 1) (cd - 1))
    have f3:=Ob.other f2 (Ne.symm nbf) (i:=4) (.slice (some ⟨gd,od+1,none⟩) (m.draws.length - 1) (cd - 1))
    have l3:=Ob.other l2 (Ne.symm nbl) (i:=4) (.slice (some ⟨gd,od+1,none⟩) (m.draws.length - 1) (cd - 1))
    have A3:=Rar.set A2 nbp nbq (i:=4) (.slice (some ⟨gd,od+1,none⟩) (m.draws.length - 1) (cd - 1))
    have SB:Fr [b] w2 (w2.setCell ⟨b,4,none⟩ (.slice (some ⟨gd,od+1,none⟩) (m.draws.length - 1) (cd - 1))):=Fr.setCell _ Lc
    have S3:=S2.kept SB (fun k hk hi=>by simp at hi;subst hi;exact nD.1 Lx)
    have D3:=D2.trans (SB.mono (T:=[b,fb,lb,p,q]) Lc)
    have HDV:=q9 (fun W (F:Fr [fb] (w2.setCell ⟨b,4,none⟩ (.slice (some ⟨gd,od+1,none⟩) (m.draws.length - 1) (cd - 1))) W)=>(show Sq fI W (.slice (some ⟨gd,od+1,none⟩) (m.draws.length - 1) (cd - 1)) (if y1.drew=true/\f.l.drew=false/\m.draws≠[] then m.draws.tail else m.draws) by rw [qf ⟨HDW.out,HWS.out,fun e=>HZ.out Oj⟩];exact S3.kept F (fun k hk hi=>by simp at hi;subst hi;exact nD.2.1 Lx)))
    have HSUB:=q9 (fun (k:Nat) (hk:k∈(Value.ownBlock (.slice (some ⟨gd,od+1,none⟩) (m.draws.length - 1) (cd - 1))).toList)=>(show k∈(Value.slice (some ⟨gd,od,none⟩) m.draws.length cd).ownBlock.toList by simpa [Value.ownBlock] using hk))
    clear h2 f2 l2 A2 D2 S2 S3 SB
    generalize (w2.setCell ⟨b,4,none⟩ (.slice (some ⟨gd,od+1,none⟩) (m.draws.length - 1) (cd - 1)))=w3 at *
    obtain ⟨d0,d1,d2,d3,d4,d5,d6,d7,d8⟩:=zq f3
    have zf:=f3.frozen
    go_ret
    exact ⟨⟨⟨_,HDV.out _ (Fr.refl _ _),HSUB.out,h3⟩,.inr ⟨HL0.out,f3⟩⟩,l3,A3,D3,rfl⟩
   have HWS:=q9 hws
   clear hws
   go_wp2_with fail
   clear c0 c1 c2 c3 c4 c5 c6 d0 d1 d2 d3 d4 d5 d6 d7 d8 z e6
   have HDV:=q9 (fun W (F:Fr [fb] w2 W)=>(show Sq fI W (Value.slice ad m.draws.length cd) (if y1.drew=true/\f.l.drew=false/\m.draws≠[] then m.draws.tail else m.draws) by rw [qd (by rw [HWS.out];simp)];exact HD2.out.kept F (fun k hk hi=>by simp at hi;subst hi;exact nD.2.1 hk)))
  rotate_left
  all_goals
   have HSUB:=q9 (fun (k:Nat) (hk:k∈(Value.slice ad m.draws.length cd).ownBlock.toList)=>hk)
   have h3:=h2
   have f3:=f2
   have l3:=l2
   have A3:=A2
   have D3:=D2
   clear h2 f2 l2 A2 D2
   obtain ⟨d0,d1,d2,d3,d4,d5,d6,d7,d8⟩:=zq f3
   have zf:=f3.frozen
   go_ret
   exact ⟨⟨⟨_,HDV.out _ (Fr.refl _ _),HSUB.out,h3⟩,.inr ⟨HL0.out,f3⟩⟩,l3,A3,D3,rfl⟩
theorem q4l (m:Md) (f:Fm) (hc:m.c.Ok) (b fb lb p q:Nat) (sp np bp pp:Option Nat) (dv fv:Value) (s:St) (w:World) (h:Z4 w b m dv fv) (hf:Zo w fb f lb sp np bp pp) (hL:yd w lb f.l) (hA:Rar w p q s) (nbf:¬ b=fb) (nbl:¬ b=lb) (nfl:¬ fb=lb) (nbp:¬ b=p) (nbq:¬ b=q) (nfp:¬ fb=p) (nfq:¬ fb=q) (nlp:¬ lb=p) (nlq:¬ lb=q) (hnp:np=none) :
  Calls Tryz.prog 108 #[.pointer (some ⟨b,0,none⟩),.pointer (some ⟨p,0,none⟩),.pointer (some ⟨fb,0,none⟩)] w fun e w'=>e = .returned (.tuple #[])/\Z4 w' b m dv fv/\yd w' lb f.l/\(∃ nb,w.heap.size<=nb/\Zo w' fb f lb sp (some nb) bp pp/\Vg w' nb (Nd.new m.c))/\Rar w' p q (s.load 1)/\Fr [fb,p,q] w w':=by
 subst hnp;obtain ⟨d0,d1,d2,d3,d4,d5,d6,d7,d8⟩:=zq hf;unfold vg at d4;simp only at d4;go_enter Tryz.func108,Tryz.ntmps108;go_wp2_with fail;clear d0 d1 d2 d3 d4 d5 d6 d7 d8;refine (Ref.zl _ p q s _ hA).mono ?_;rintro e w1 ⟨rfl,A1,F1⟩;have h1:=Ob.kept h F1 (by simp;exact ⟨nbp,nbq⟩);have f1:=Ob.kept hf F1 (by simp;exact ⟨nfp,nfq⟩);have l1:=Ob.kept hL F1 (by simp;exact ⟨nlp,nlq⟩);have D1:Fr [fb,p,q] w w1:=F1.mono;clear h hf hL hA F1;obtain ⟨c0,c1,c2,c3,c4,c5,c6⟩:=zk h1;have z:=h1.frozen;go_wp2_with fail;clear c0 c1 c2 c3 c4 c5 c6 z;refine (q0g m.c w1).mono ?_;rintro e w2 ⟨nb,rfl,hnb,n2,F2⟩;have h2:=Ob.up h1 F2;have f2:=Ob.up f1 F2;have l2:=Ob.up l1 F2;have A2:=A1.kept F2;have D2:=D1.then F2;have HNB:=q9 (qh D1.size hnb);have nfn:¬ fb=nb:=by have:=Ob.lt f1;omega
 clear h1 f1 l1 A1 D1 F2 hnb;obtain ⟨d0,d1,d2,d3,d4,d5,d6,d7,d8⟩:=zq f2;have zf:=f2.frozen;go_wp2_with fail;refine bodyPost_ret (v:=.tuple #[]) (by simp [results,Tryz.results108,go_sem]) rfl ?_;exact ⟨rfl,Ob.other h2 nbf _,Ob.other l2 (Ne.symm nfl) _,⟨nb,HNB.out,Ob.set f2 _,Ob.other n2 (Ne.symm nfn) _⟩,Rar.set A2 nfp nfq _,D2.trans (Fr.setCell _ Lc)⟩
theorem q3e (m:Md) (f:Fm) (hc:m.c.Ok) (x:Nd) (hxc:x.c.Ok) (hxt:0<=x.t/\x.t<=8) (hxl:x.l.length<=1000) (nb:Nat) (b fb lb p q:Nat) (sp np bp pp:Option Nat) (dv fv:Value) (s:St) (w:World) (h:Z4 w b m dv fv) (hf:Zo w fb f lb sp np bp pp) (hL:yd w lb f.l) (hA:Rar w p q s) (nbf:¬ b=fb) (nbl:¬ b=lb) (nfl:¬ fb=lb) (nbp:¬ b=p) (nbq:¬ b=q) (nfp:¬ fb=p) (nfq:¬ fb=q) (nlp:¬ lb=p) (nlq:¬ lb=q) (hnp:np=some nb) (hN:Vg w nb x) (hS:Sq fI w x.lv x.l) (nnl:nb∉x.lv.ownBlock.toList) (npl:p∉x.lv.ownBlock.toList) (nql:q∉x.lv.ownBlock.toList) (nnp:nb≠p) (nnq:nb≠q) (nbn:¬ b=nb) (nfn:¬ fb=nb) (nln:¬ lb=nb) (nfv:fb∉x.lv.ownBlock.toList) (hlt:∀ k,k∈x.lv.ownBlock.toList->k<w.heap.size) :
  Calls Tryz.prog 108 #[.pointer (some ⟨b,0,none⟩),.pointer (some ⟨p,0,none⟩),.pointer (some ⟨fb,0,none⟩)] w fun e w'=>e = .returned (.tuple #[])/\Z4 w' b m dv fv/\yd w' lb f.l/\qd3 w w' m fb lb nb f sp bp pp x.lv (x.step s).1/\Rar w' p q (x.step s).2/\Fr [fb,nb,p,q] w w':=by
 subst hnp;generalize hy:x.step s=y;have HY:=q9 hy;clear hy;obtain ⟨y1,y2⟩:=y;obtain ⟨d0,d1,d2,d3,d4,d5,d6,d7,d8⟩:=zq hf;unfold vg at d4;simp only at d4;go_enter Tryz.func108,Tryz.ntmps108;go_wp2_with fail;clear d0 d1 d2 d3 d4 d5 d6 d7 d8;refine (q5r x hxc hxt nb p q s w hN hA nnp nnq hS nnl npl nql hxl).mono ?_;rintro e w1 ⟨rfl,⟨lv',n1,s1,hlv⟩,A1,F1⟩;have h1:=Ob.kept h F1 (by simp;exact ⟨nbn,nbp,nbq⟩);have f1:=Ob.kept hf F1 (by simp;exact ⟨nfn,nfp,nfq⟩);have l1:=Ob.kept hL F1 (by simp;exact ⟨nln,nlp,nlq⟩);have D1:Fr [fb,nb,p,q] w w1:=F1.mono;rw [HY.out] at n1 s1 A1 hlv ⊢;simp only at n1 s1 A1 hlv ⊢;have HFW:=q9 (Ob.lt hf);clear h hf hL hA F1 hN hS;by_cases hl0:y1.line=0
 ·have g0:decide (y1.line=0)=true:=by simpa using hl0
  rw [g0];have HL0:=q9 hl0;clear hl0 g0;obtain ⟨d0,d1,d2,d3,d4,d5,d6,d7,d8⟩:=zq f1;go_wp2_with fail;clear d0 d1 d2 d3 d4 d5 d6 d7 d8;refine (Qq f.l lb w1 l1).mono ?_;rintro e w2 ⟨rfl,F2⟩;have h2:=Ob.up h1 F2;have f2:=Ob.up f1 F2;have l2:=Ob.up l1 F2;have n2:=Ob.up n1 F2;have s2:=s1.up F2;have A2:=A1.kept F2;have D2:=D1.then F2;clear h1 f1 l1 n1 s1 A1 D1 F2;go_wp2_with fail;refine qp Le ?_;refine wm 1 rfl Le Le Le rfl (fun _ _ d _ _ h=>by cases d <;> exact h) ?_;go_frame;refine za [] w2 #[true,true,true,true,true,true,true,true,true,true,true,true,true,true,true,false,false,false,false,false,false] 14 6 rfl ?_;refine ja [true,false,true,true,true,true,true,true,true,true,true,true,true,false,false,false,false,false,false,false,false] 2 (n:=58) (listed':=#[true,true,true,true,true,true,true,true,true,true,true,true,true,false,false,false,false,false,false,false,false]) rfl Le Le Le Le rfl Le (fun _ _ d _ _ h=>by cases d <;> exact h) ((Fr.refl _ w2).drew) ?_;apply qg;refine ⟨fun wf Ff=>?_,?_⟩
  ·obtain ⟨c0,c1,c2,c3,-,-,-⟩:=zk (Ob.up h2 Ff);obtain ⟨-,-,-,-,d4,-,-,-,-⟩:=zq (Ob.up f2 Ff);unfold vg at d4;simp only at d4;have k0:=qb c0;have k1:=qb c1;have k2:=qb c2;have k3:=qb c3;have k4:=qb d4;clear c0 c1 c2 c3 d4;exact Ab
  refine loq 13 (fun w3 F3=>?_);have E:=((Fr.refl [] w2).drew.trans F3);clear F3;go_wp2_with fail;refine (Rh { y1 with lv:=lv' } HL0.out nb w3 (Ob.up n2 E)).mono ?_;rintro e w4 ⟨rfl,rfl⟩;go_wp2_with fail;refine ql ⟨E,?_⟩;refine loq 14 (fun w5 F5=>?_);replace E:=E.trans F5;clear F5;have HE5:=q9 E.size
  have hlt5:∀ k,k∈lv'.ownBlock.toList->k<w5.heap.size:=fun k hk=>by
   rcases hlv with e | ⟨hne,-⟩
   ·rw [e] at hk;exact qj (hlt k hk) (qh D2.size E.size)
   ·exact qj (Qx s2 hne k hk) E.size
  go_wp2_with fail;refine (R9 m.c f.l.three.1 f.l.three.2.1 f.l.three.2.2 y1.l lv' w5 (s2.up E) hlt5).mono ?_;rintro e w6 ⟨bb,B,rfl,hbb,hB6,b6,F6⟩;replace E:=E.trans F6;clear hlt5;go_wp2_with fail;refine ql ⟨E,?_⟩;refine qy (k:=15) rfl Le (fun w10 F10=>?_);replace E:=E.trans F10;have hB10:=hB6.kept F10 Lc;have h10:=Ob.up h2 E;have f10:=Ob.up f2 E;have l10:=Ob.up l2 E;have A10:=A2.kept E;have D10:=D2.then E
  have HBB:=q9 (qc (qh D2.size (qh HE5.out hbb)) (show ∀ k,k∈B->k∈x.lv.ownBlock.toList\/w.heap.size<=k from fun k hk=>by
   rcases b6 k hk with e | e
   ·rcases hlv with e2 | ⟨-,e2⟩
    ·rw [e2] at e;exact .inl e
    exact .inr (e2 k e)
   ·exact .inr (qh D2.size (qh HE5.out e))))
  have hfB:fb∉B:=fun hi=>by
   rcases b6 fb hi with e | e
   ·rcases hlv with e2 | ⟨-,e2⟩
    ·rw [e2] at e;exact nfv e
    have:=e2 fb e;have:=HFW.out;omega
   ·have:=Ob.lt f2;have:=HE5.out;omega
  have HF:=q9 (qc h10 (qc l10 (qc hB10 (qc A10 D10))));clear h2 f2 l2 n2 s2 A2 D2 F10 E hB6 h10 l10 hB10 A10 D10 b6 hbb;obtain ⟨d0,d1,d2,d3,d4,d5,d6,d7,d8⟩:=zq f10;have zf:=f10.frozen;go_wp2_with fail;go_end0;have SF:Fr [fb] w10 ((w10.setCell ⟨fb,1,none⟩ (.int .i64 5)).setCell ⟨fb,6,none⟩ (.pointer (some ⟨bb,0,none⟩))):=(Fr.setCell _ Lc).setCell' _ Lc;exact ⟨rfl,Ob.other (Ob.other HF.out.1 nbf _) nbf _,Ob.other (Ob.other HF.out.2.1 (Ne.symm nfl) _) (Ne.symm nfl) _,.inr ⟨HL0.out,bb,B,HBB.out.1,Ob.set (Ob.set f10 _) (i:=6) (.pointer (some ⟨bb,0,none⟩)),HF.out.2.2.1.kept SF (fun k hk hi=>by simp at hi;subst hi;exact hfB hk),HBB.out.2⟩,Rar.set (Rar.set HF.out.2.2.2.1 nfp nfq (i:=1) (.int .i64 5)) nfp nfq (i:=6) (.pointer (some ⟨bb,0,none⟩)),HF.out.2.2.2.2.trans (SF.mono)⟩
 ·have g0:decide (y1.line=0)=false:=by simpa using hl0
  rw [g0];have HL0:=q9 hl0;clear hl0 g0;go_wp2_with fail;go_end0;exact ⟨rfl,h1,l1,.inl ⟨HL0.out,f1,lv',n1,s1,hlv⟩,A1,D1⟩
theorem q1o (m:Md) (f:Fm) (hc:m.c.Ok) (x:Sp) (hxc:x.c.Ok) (pb:Nat) (ifb:List Nat) (b fb lb p q:Nat) (sp np bp pp:Option Nat) (dv fv:Value) (s:St) (w:World) (h:Z4 w b m dv fv) (hf:Zo w fb f lb sp np bp pp) (hL:yd w lb f.l) (hA:Rar w p q s) (nbf:¬ b=fb) (nbl:¬ b=lb) (nfl:¬ fb=lb) (nbp:¬ b=p) (nbq:¬ b=q) (nfp:¬ fb=p) (nfq:¬ fb=q) (nlp:¬ lb=p) (nlq:¬ lb=q) (hlen:ifb.length<=9999999) (hpp:pp=some pb) (hP:Zm w pb x) (npp:pb≠p) (npq:pb≠q) (nbpb:¬ b=pb) (nfpb:¬ fb=pb) (nlpb:¬ lb=pb) (hD:Sq fI w dv m.draws) (nD:b∉dv.ownBlock.toList/\fb∉dv.ownBlock.toList/\pb∉dv.ownBlock.toList/\p∉dv.ownBlock.toList/\q∉dv.ownBlock.toList) (hF:Sq fP w fv (ifb++[fb])) (nF:b∉fv.ownBlock.toList/\fb∉fv.ownBlock.toList/\pb∉fv.ownBlock.toList/\p∉fv.ownBlock.toList/\q∉fv.ownBlock.toList) :
  Calls Tryz.prog 110 #[.pointer (some ⟨b,0,none⟩),.pointer (some ⟨p,0,none⟩),.pointer (some ⟨fb,0,none⟩)] w fun e w'=>e = .returned (.tuple #[])/\yd w' lb f.l/\qcz w w' m b dv fv ifb fb lb pb f sp np bp (x.step s).1/\Rar w' p q (x.step s).2/\Fr [b,fb,pb,p,q] w w':=by
 subst hpp;obtain ⟨av,cv,rfl,hcv,hmv,-⟩:=id hF;have hFl:(ifb++[fb]).length=ifb.length+1:=by simp
 rw [hFl] at h hF hcv nF ⊢;clear hFl;obtain ⟨gF,oF,rfl,-⟩:=Z3 hF (show (ifb++[fb])[ifb.length]? = some fb by simp);generalize hy:x.step s=y;have HY:=q9 hy;clear hy;obtain ⟨y1,y2⟩:=y;have HFD:=q9 (qc hF hD);obtain ⟨d0,d1,d2,d3,d4,d5,d6,d7,d8⟩:=zq hf;unfold vg at d7;simp only at d7;clear hF hD;go_enter Tryz.func110,Tryz.ntmps110;go_wp2_with fail;clear d0 d1 d2 d3 d4 d5 d6 d7 d8;refine (q1l x hxc pb p q s w hP hA npp npq).mono ?_;rintro e w1 ⟨rfl,P1,A1,F1⟩;have h1:Z4 w1 b m dv (.slice (some ⟨gF,oF,none⟩) (ifb.length+1) cv):=Ob.kept h F1 (by simp;exact ⟨nbpb,nbp,nbq⟩);have f1:Zo w1 fb f lb sp np bp (some pb):=Ob.kept hf F1 (by simp;exact ⟨nfpb,nfp,nfq⟩);have l1:yd w1 lb f.l:=Ob.kept hL F1 (by simp;exact ⟨nlpb,nlp,nlq⟩);have D1:Fr [b,fb,pb,p,q] w w1:=F1.mono;have HF1:=q9 (qc (HFD.out.1.kept F1 (fun k hk hi=>by simp only [List.mem_cons,List.not_mem_nil,or_false] at hi;rcases hi with rfl | rfl | rfl;exact nF.2.2.1 hk;exact nF.2.2.2.1 hk;exact nF.2.2.2.2 hk)) (HFD.out.2.kept F1 (fun k hk hi=>by simp only [List.mem_cons,List.not_mem_nil,or_false] at hi;rcases hi with rfl | rfl | rfl;exact nD.2.2.1 hk;exact nD.2.2.2.1 hk;exact nD.2.2.2.2 hk)));rw [HY.out] at P1 A1 ⊢;simp only at P1 A1 ⊢;clear h hf hL hA F1 hP HFD;obtain ⟨d0,d1,d2,d3,d4,d5,d6,d7,d8⟩:=zq f1;unfold vg at d7;simp only at d7;have u12:=q85 P1;by_cases hl0:y1.line=0
 ·have g0:decide (y1.line=0)=true:=by simpa using hl0
  rw [g0];have HL0:=q9 hl0;clear hl0 g0;by_cases hs0:y1.stuck=0
  ·have gs:(y1.stuck != 0)=false:=by simpa using hs0
   have HS0:=q9 hs0;have HP1:=q9 P1;clear hs0 P1;go_wp2_with fail;clear d0 d1 d2 d3 d4 d5 d6 d7 d8 gs u12;refine qp Le ?_;refine za [] w1 #[true,true,true,true,true,true,true,true,true,true,true,true,false,false,false] 12 3 rfl ?_;refine lpq [true,true,true,true,true,true,true,true,true,true,true,true,false,false,false] 0 ((Fr.refl _ _).drew) ?_;apply qg;refine ⟨fun wf Ff=>?_,?_⟩
   ·obtain ⟨-,-,-,-,-,c5,-⟩:=zk (Ob.up h1 Ff);have k5:=qb c5;clear c5;exact Ab
   refine qy (k:=12) rfl Le (fun w2 F2=>?_);have E:=((Fr.refl [] w1).drew.trans F2);have h2:=Ob.up h1 E;have l2:=Ob.up l1 E;have A2:=A1.kept E;have D2:=D1.then E;have HFE:=q9 (HF1.out.1.up E);clear h1 f1 l1 A1 D1 E F2;obtain ⟨c0,c1,c2,c3,c4,c5,c6⟩:=zk h2;have z:=h2.frozen;go_wp2_with fail;go_end0;have SB:Fr [b] w2 (w2.setCell ⟨b,5,none⟩ (.slice (some ⟨gF,oF,none⟩) ifb.length cv)):=Fr.setCell _ Lc;have FT:=Sq.take V7 HFE.out ifb.length Lc;rw [List.take_left] at FT;exact ⟨rfl,Ob.other l2 (Ne.symm nbl) _,.inr (.inl ⟨HL0.out,HS0.out,_,Ob.set h2 _,FT.kept SB (fun k hk hi=>by simp at hi;subst hi;exact nF.1 Lx),fun k hk=>by simpa [Value.ownBlock] using hk⟩),Rar.set A2 nbp nbq _,D2.trans (Fr.setCell _ Lc)⟩
  have gs:(y1.stuck != 0)=true:=by simpa using hs0
  have HS0:=q9 hs0;have HP1:=q9 P1;clear hs0 P1;go_wp2_with fail;clear d0 d1 d2 d3 d4 d5 d6 d7 d8 gs u12;refine qp Le ?_;refine za [] w1 #[true,true,true,true,true,true,true,true,true,false] 9 1 rfl ?_;refine ja [true,true,true,true,true,true,true,true,true,false] 0 (n:=50) (listed':=#[true,true,true,true,true,true,true,true,true,false]) rfl Le Le Le Le rfl Le (fun _ _ d _ _ h=>by cases d <;> exact h) ((Fr.refl _ _).drew) ?_;apply qg;refine ⟨fun wf Ff=>?_,?_⟩
  ·obtain ⟨c0,c1,c2,c3,-,-,-⟩:=zk (Ob.up h1 Ff);obtain ⟨-,-,-,-,-,-,-,-,d8⟩:=zq (Ob.up f1 Ff);have k0:=qb c0;have k1:=qb c1;have k2:=qb c2;have k3:=qb c3;have k8:=qb d8;clear c0 c1 c2 c3 d8;exact Ab
  refine qy (k:=9) rfl Le (fun w2 F2=>?_);have E:=((Fr.refl [] w1).drew.trans F2);have h2:=Ob.up h1 E;have f2:=Ob.up f1 E;have l2:=Ob.up l1 E;have A2:=A1.kept E;have D2:=D1.then E;have HFE:=q9 (qc (HF1.out.1.up E) (HF1.out.2.up E));clear h1 f1 l1 A1 D1 E F2;go_wp2_with fail;refine (Xh f m.c hc f.repl fb lb sp np bp (some pb) w2 f2 l2).mono ?_;rintro e w3 ⟨rfl,⟨pb2,hpb2,f3,p3⟩,F3⟩;have h3:=Ob.kept h2 F3 (by simp;exact nbf);have l3:=Ob.kept l2 F3 Oe;have A3:=A2.kept F3 Oh Oi;have D3:=D2.trans (F3.mono (T:=[b,fb,pb,p,q]) Lc);have hF3:=HFE.out.1.kept F3 (fun k hk hi=>by simp at hi;subst hi;exact nF.2.1 hk);have hD3:=HFE.out.2.kept F3 (fun k hk hi=>by simp at hi;subst hi;exact nD.2.1 hk);have HPB:=q9 (qc (qh D2.size hpb2) (Ob.lt p3));have hb2:=Ob.lt h2;have hf2:=Ob.lt f2;have hl2:=Ob.lt l2;clear h2 f2 l2 A2 D2 F3;go_wp2_with fail;refine (Wj m hc y1.stuck b dv _ (ifb++[fb]) w3 h3 hD3 hF3 Ll).mono ?_;rintro e w4 ⟨rfl,⟨fv',fb2,lb2,h4,F4v,g4,q4,s1,s2,s3,s4⟩,F4⟩;have f4:=Ob.kept f3 F4 (by simp;exact Ne.symm nbf);have p4:=Ob.kept p3 F4 Ll;have l4:=Ob.kept l3 F4 (by simp;exact Ne.symm nbl);have A4:=A3.kept F4 (by simp;exact Ne.symm nbp) (by simp;exact Ne.symm nbq);have D4:=D3.trans (F4.mono (T:=[b,fb,pb,p,q]) Lc);have h8:=HPB.out;have h9:=D3.size;go_wp2_with fail;refine bodyPost_ret (v:=.tuple #[]) Oc rfl ?_;exact ⟨rfl,l4,.inr (.inr ⟨HL0.out,HS0.out,pb2,fv',fb2,lb2,h4,F4v,f4,p4,g4,q4,h8.1,by omega,by omega,by omega,by omega,s3,fun k hk=>by have:=s4 k hk;exact ⟨by omega,this.2.1,this.2.2.1,this.2.2.2⟩⟩),A4,D4⟩
 ·have g0:decide (y1.line=0)=false:=by simpa using hl0
  rw [g0];have HL0:=q9 hl0;clear hl0 g0 u12;go_wp2_with fail;refine bodyPost_ret (v:=.tuple #[]) Oc rfl ?_;exact ⟨rfl,l1,.inl ⟨HL0.out,h1,f1,P1⟩,A1,D1⟩
theorem q9q (m:Md) (f:Fm) (hpt:f.part=4) (hc:m.c.Ok) (b fb lb p q:Nat) (sp np bp pp:Option Nat) (dv fv:Value) (ifb:List Nat) (s:St) (w:World) (h:Z4 w b m dv fv) (hF:Sq fP w fv (ifb++[fb])) (hlen:ifb.length<=10000000) (hf:Zo w fb f lb sp np bp pp) (hL:yd w lb f.l) (hA:Rar w p q s) (nbf:¬ b=fb) (nbl:¬ b=lb) (nfl:¬ fb=lb) (nbp:¬ b=p) (nbq:¬ b=q) (nfp:¬ fb=p) (nfq:¬ fb=q) (nlp:¬ lb=p) (nlq:¬ lb=q) (hnp:np=none) (nF:b∉fv.ownBlock.toList/\fb∉fv.ownBlock.toList/\lb∉fv.ownBlock.toList/\p∉fv.ownBlock.toList/\q∉fv.ownBlock.toList) :
  Calls Tryz.prog 87 #[.pointer (some ⟨b,0,none⟩),.pointer (some ⟨p,0,none⟩)] w fun e w'=>e = .returned (.bool false)/\Z4 w' b m dv fv/\yd w' lb f.l/\(∃ nb,w.heap.size<=nb/\Zo w' fb f lb sp (some nb) bp pp/\Vg w' nb (Nd.new m.c))/\Rar w' p q (s.load 1)/\Fr [fb,p,q] w w':=by
 obtain ⟨av,cv,rfl,hcv,hmv,-⟩:=id hF;have hFl:(ifb++[fb]).length=ifb.length+1:=by simp
 rw [hFl] at h hF hcv nF ⊢;clear hFl;obtain ⟨gF,oF,rfl,cF⟩:=Z3 hF (show (ifb++[fb])[ifb.length]? = some fb by simp);obtain ⟨c0,c1,c2,c3,c4,c5,c6⟩:=zk h;have hge:¬ ((ifb.length:Int)+1=0):=by omega
 go_enter Tryz.func87,Tryz.ntmps87;go_wp2_with fail;have k5:=qb c5;have kF:=qb cF;clear c0 c1 c2 c3 c4 c5 c6 cF;refine wiq ?_;repeat (go_big_quiet_step (fail))
 refine wpQuiet_nil ?_;intro w1 F1;have h1:Z4 w1 b m dv (.slice (some ⟨gF,oF,none⟩) (ifb.length+1) cv):=Ob.up h F1;have f1:Zo w1 fb f lb sp np bp pp:=Ob.up hf F1;have l1:yd w1 lb f.l:=Ob.up hL F1;have A1:=hA.kept F1;clear k5 kF h hf hL hA hF;obtain ⟨c0,c1,c2,c3,c4,c5,c6⟩:=zk h1;obtain ⟨d0,d1,d2,d3,d4,d5,d6,d7,d8⟩:=zq f1;rw [hpt] at d1;clear hpt;have z:=h1.frozen;have zf:=f1.frozen;go_wp2_with fail;clear c0 c1 c2 c3 c4 c5 c6 d0 d1 d2 d3 d4 d5 d6 d7 d8 z zf;refine (q4l m f hc b fb lb p q sp np bp pp dv _ s w1 h1 f1 l1 A1 nbf nbl nfl nbp nbq nfp nfq nlp nlq hnp).mono ?_;rintro e w2 ⟨rfl,h2,l2,N2,A2,F2⟩;have D2:Fr [fb,p,q] w w2:=(F1.mono).trans F2;have HN:=q9 (qc N2 F1.size);clear N2 h1 f1 l1 A1 F1 F2;obtain ⟨c0,c1,c2,c3,c4,c5,c6⟩:=zk h2;go_wp2_with fail;go_ret;obtain ⟨nb,n1,n2,n3⟩:=HN.out.1;exact ⟨rfl,h2,l2,⟨nb,qh HN.out.2 n1,n2,n3⟩,A2,D2⟩
theorem q7t (m:Md) (f:Fm) (hpt:f.part=4) (hc:m.c.Ok) (x:Nd) (hxc:x.c.Ok) (hxt:0<=x.t/\x.t<=8) (hxl:x.l.length<=1000) (nb:Nat) (b fb lb p q:Nat) (sp np bp pp:Option Nat) (dv fv:Value) (ifb:List Nat) (s:St) (w:World) (h:Z4 w b m dv fv) (hF:Sq fP w fv (ifb++[fb])) (hlen:ifb.length<=10000000) (hf:Zo w fb f lb sp np bp pp) (hL:yd w lb f.l) (hA:Rar w p q s) (nbf:¬ b=fb) (nbl:¬ b=lb) (nfl:¬ fb=lb) (nbp:¬ b=p) (nbq:¬ b=q) (nfp:¬ fb=p) (nfq:¬ fb=q) (nlp:¬ lb=p) (nlq:¬ lb=q) (hnp:np=some nb) (hN:Vg w nb x) (hS:Sq fI w x.lv x.l) (nnl:nb∉x.lv.ownBlock.toList) (npl:p∉x.lv.ownBlock.toList) (nql:q∉x.lv.ownBlock.toList) (nnp:nb≠p) (nnq:nb≠q) (nbn:¬ b=nb) (nfn:¬ fb=nb) (nln:¬ lb=nb) (nfv:fb∉x.lv.ownBlock.toList) (hlt:∀ k,k∈x.lv.ownBlock.toList->k<w.heap.size) (nF:b∉fv.ownBlock.toList/\fb∉fv.ownBlock.toList/\lb∉fv.ownBlock.toList/\p∉fv.ownBlock.toList/\q∉fv.ownBlock.toList) :
  Calls Tryz.prog 87 #[.pointer (some ⟨b,0,none⟩),.pointer (some ⟨p,0,none⟩)] w fun e w'=>e = .returned (.bool false)/\Z4 w' b m dv fv/\yd w' lb f.l/\qd3 w w' m fb lb nb f sp bp pp x.lv (x.step s).1/\Rar w' p q (x.step s).2/\Fr [fb,nb,p,q] w w':=by
 generalize hy:x.step s=y;have HY:=q9 hy;clear hy;obtain ⟨av,cv,rfl,hcv,hmv,-⟩:=id hF;have hFl:(ifb++[fb]).length=ifb.length+1:=by simp
 rw [hFl] at h hF hcv nF ⊢;clear hFl;obtain ⟨gF,oF,rfl,cF⟩:=Z3 hF (show (ifb++[fb])[ifb.length]? = some fb by simp);obtain ⟨c0,c1,c2,c3,c4,c5,c6⟩:=zk h;have hge:¬ ((ifb.length:Int)+1=0):=by omega
 go_enter Tryz.func87,Tryz.ntmps87;go_wp2_with fail;have k5:=qb c5;have kF:=qb cF;clear c0 c1 c2 c3 c4 c5 c6 cF;refine wiq ?_;repeat (go_big_quiet_step (fail))
 refine wpQuiet_nil ?_;intro w1 F1;have h1:Z4 w1 b m dv (.slice (some ⟨gF,oF,none⟩) (ifb.length+1) cv):=Ob.up h F1;have f1:Zo w1 fb f lb sp np bp pp:=Ob.up hf F1;have l1:yd w1 lb f.l:=Ob.up hL F1;have A1:=hA.kept F1;have HN1:=q9 (qc (show Vg w1 nb x from Ob.up hN F1) (hS.up F1));have hlt1:∀ k,k∈x.lv.ownBlock.toList->k<w1.heap.size:=fun k hk=>qj (hlt k hk) F1.size
 clear hN hS hlt;clear k5 kF h hf hL hA hF;obtain ⟨c0,c1,c2,c3,c4,c5,c6⟩:=zk h1;obtain ⟨d0,d1,d2,d3,d4,d5,d6,d7,d8⟩:=zq f1;rw [hpt] at d1;clear hpt;have z:=h1.frozen;have zf:=f1.frozen;go_wp2_with fail;clear c0 c1 c2 c3 c4 c5 c6 d0 d1 d2 d3 d4 d5 d6 d7 d8 z zf;refine (q3e m f hc x hxc hxt hxl nb b fb lb p q sp np bp pp dv _ s w1 h1 f1 l1 A1 nbf nbl nfl nbp nbq nfp nfq nlp nlq hnp HN1.out.1 HN1.out.2 nnl npl nql nnp nnq nbn nfn nln nfv hlt1).mono ?_;rintro e w2 ⟨rfl,h2,l2,N2,A2,F2⟩;have D2:Fr [fb,nb,p,q] w w2:=(F1.mono).trans F2;rw [HY.out] at N2 A2;have HN:=q9 (N2.mono F1.size);clear N2 h1 f1 l1 A1 F1 F2 hlt1;obtain ⟨c0,c1,c2,c3,c4,c5,c6⟩:=zk h2;go_wp2_with fail;go_ret;exact ⟨rfl,h2,l2,HN.out,A2,D2⟩
theorem qc1 (m:Md) (f:Fm) (hpt:f.part=6) (hc:m.c.Ok) (x:Sp) (hxc:x.c.Ok) (pb:Nat) (b fb lb p q:Nat) (sp np bp pp:Option Nat) (dv fv:Value) (ifb:List Nat) (s:St) (w:World) (h:Z4 w b m dv fv) (hF:Sq fP w fv (ifb++[fb])) (hlen:ifb.length<=10000000) (hf:Zo w fb f lb sp np bp pp) (hL:yd w lb f.l) (hA:Rar w p q s) (nbf:¬ b=fb) (nbl:¬ b=lb) (nfl:¬ fb=lb) (nbp:¬ b=p) (nbq:¬ b=q) (nfp:¬ fb=p) (nfq:¬ fb=q) (nlp:¬ lb=p) (nlq:¬ lb=q) (hlen6:ifb.length<=9999999) (hpp:pp=some pb) (hP:Zm w pb x) (npp:pb≠p) (npq:pb≠q) (nbpb:¬ b=pb) (nfpb:¬ fb=pb) (nlpb:¬ lb=pb) (hD:Sq fI w dv m.draws) (nD:b∉dv.ownBlock.toList/\fb∉dv.ownBlock.toList/\pb∉dv.ownBlock.toList/\p∉dv.ownBlock.toList/\q∉dv.ownBlock.toList) (npF:pb∉fv.ownBlock.toList) (nF:b∉fv.ownBlock.toList/\fb∉fv.ownBlock.toList/\lb∉fv.ownBlock.toList/\p∉fv.ownBlock.toList/\q∉fv.ownBlock.toList) :
  Calls Tryz.prog 87 #[.pointer (some ⟨b,0,none⟩),.pointer (some ⟨p,0,none⟩)] w fun e w'=>e = .returned (.bool (Yp (x.step s).1 ifb))/\yd w' lb f.l/\qcz w w' m b dv fv ifb fb lb pb f sp np bp (x.step s).1/\Rar w' p q (x.step s).2/\Fr [b,fb,pb,p,q] w w':=by
 generalize hy:x.step s=y;have HY:=q9 hy;clear hy;have HFD:=q9 (qc hF (qc hD nF));obtain ⟨av,cv,rfl,hcv,hmv,-⟩:=id hF;have hFl:(ifb++[fb]).length=ifb.length+1:=by simp
 rw [hFl] at h hF hcv nF ⊢;clear hFl;obtain ⟨gF,oF,rfl,cF⟩:=Z3 hF (show (ifb++[fb])[ifb.length]? = some fb by simp);obtain ⟨c0,c1,c2,c3,c4,c5,c6⟩:=zk h;have hge:¬ ((ifb.length:Int)+1=0):=by omega
 go_enter Tryz.func87,Tryz.ntmps87;go_wp2_with fail;have k5:=qb c5;have kF:=qb cF;clear c0 c1 c2 c3 c4 c5 c6 cF;refine wiq ?_;repeat (go_big_quiet_step (fail))
 refine wpQuiet_nil ?_;intro w1 F1;have h1:Z4 w1 b m dv (.slice (some ⟨gF,oF,none⟩) (ifb.length+1) cv):=Ob.up h F1;have f1:Zo w1 fb f lb sp np bp pp:=Ob.up hf F1;have l1:yd w1 lb f.l:=Ob.up hL F1;have A1:=hA.kept F1;have HP1:=q9 (show Zm w1 pb x from Ob.up hP F1);have HF1:=q9 (qc (HFD.out.1.up F1) (HFD.out.2.1.up F1));clear hP hD;clear k5 kF h hf hL hA hF;obtain ⟨c0,c1,c2,c3,c4,c5,c6⟩:=zk h1;obtain ⟨d0,d1,d2,d3,d4,d5,d6,d7,d8⟩:=zq f1;rw [hpt] at d1;clear hpt;have z:=h1.frozen;have zf:=f1.frozen;go_wp2_with fail;clear c0 c1 c2 c3 c4 c5 c6 d0 d1 d2 d3 d4 d5 d6 d7 d8 z zf;have hFl:(ifb++[fb]).length=ifb.length+1:=by simp
 have HFl:=q9 hFl;rw [hFl] at HF1 HFD;clear hFl;refine (q1o m f hc x hxc pb ifb b fb lb p q sp np bp pp dv _ s w1 h1 f1 l1 A1 nbf nbl nfl nbp nbq nfp nfq nlp nlq hlen6 hpp HP1.out npp npq nbpb nfpb nlpb HF1.out.2 nD HF1.out.1 ⟨nF.1,nF.2.1,npF,nF.2.2.2.1,nF.2.2.2.2⟩).mono ?_;rintro e w2 ⟨rfl,l2,N2,A2,F2⟩;have D2:Fr [b,fb,pb,p,q] w w2:=(F1.mono).trans F2;rw [HY.out] at N2 A2;obtain ⟨y1,y2⟩:=y;simp only at N2 A2 ⊢;have HN:=q9 (N2.mono F1.size);clear h1 f1 l1 A1 F1 F2 HF1 HP1;rcases N2 with ⟨e1,h2,-⟩ | ⟨e1,e2,fv',h2,F2v,-⟩ | ⟨e1,e2,pb2,fv',fb2,lb2,h2,F2v,-⟩
 ·have HB:=q9 (show Yp y1 ifb=false by unfold Yp;simp [e1]);clear e1;exact Cy
 ·obtain ⟨a2,k2,rfl,-,-,-⟩:=id F2v
  have HB:=q9 (show Yp y1 ifb=((ifb.length:Int) == 0) by
   unfold Yp
   cases ifb with
   | nil=>simp [e1,e2]
   | cons a r=>simp;omega)
  clear e1 e2 F2v;exact Cy
 ·have HB:=q9 (show Yp y1 ifb=((ifb.length:Int)+2 == 0) by unfold Yp;simp [e2];omega);obtain ⟨a2,k2,rfl,-,-,-⟩:=id F2v;have hl2:((ifb++[fb])++[fb2]).length=ifb.length+2:=by simp
  rw [hl2] at h2;clear e1 e2 F2v hl2;exact Cy
end Go.Proofs.YtleclbldlladmaaGreat.Mx
