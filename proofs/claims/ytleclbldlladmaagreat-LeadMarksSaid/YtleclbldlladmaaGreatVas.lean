/- Parts. -/
import Derived.Test.YtleclbldlladmaaGreatVar
set_option linter.unusedVariables false
set_option linter.unusedSimpArgs false
set_option maxRecDepth 100000
set_option maxHeartbeats 12800000
namespace Go.Proofs.YtleclbldlladmaaGreat.Mx
open Go.RowKit Ar Ref
theorem q78 (x:Cl) (s:St):(x.step s).1.c=x.c:=by
 unfold Cl.step;split
 ·unfold Cl.next;simp only [apply_ite Cl.c,ite_self]
 ·rfl
def qbc (w:World) (R B:List Nat) (x:Pt) (wp xp mp:Option Nat):Prop :=
 (∃ mm mb,x.m=some mm/\mp=some mb/\Sr w R B mb mm/\mb∈B) \/
 (x.m=none/\mp=none/\∃ cl xb,x.x=some cl/\xp=some xb/\X0 w xb cl/\B=[xb]) \/
 (x.m=none/\mp=none/\x.x=none/\xp=none/\∃ wb,wp=some wb/\Z2 w wb x.w/\B=[wb])
def q8m (w:World) (R B:List Nat) (b:Nat) (x:Pt):Prop:=∃ dv wp xp mp Bx,Vk w b x dv wp xp mp/\Sq fI w dv x.draws/\(∀ k,k∈dv.ownBlock.toList->k∈R)/\qbc w R Bx x wp xp mp/\b∉Bx/\(∀ k,k∈R->k<w.heap.size/\k≠b/\k∉Bx)/\B=b :: Bx
theorem Sr.self {w:World} {R B:List Nat} {b:Nat} {m:Md} (h:Sr w R B b m):b∈B:=by obtain ⟨dv,fv,fr,h,rfl⟩:=h;exact ym.2 (.inl rfl)
theorem qbc.lt {w:World} {R B:List Nat} {x:Pt} {wp xp mp:Option Nat} (h:qbc w R B x wp xp mp):∀ k,k∈B->k<w.heap.size:=by
 rcases h with ⟨mm,mb,-,-,h,-⟩ | ⟨-,-,cl,xb,-,-,h,rfl⟩ | ⟨-,-,-,-,wb,-,h,rfl⟩
 ·exact h.lt
 ·exact Fu
 ·exact Fu
theorem q8m.lt {w:World} {R B:List Nat} {b:Nat} {x:Pt} (h:q8m w R B b x):∀ k,k∈B->k<w.heap.size:=by
 obtain ⟨dv,wp,xp,mp,Bx,h1,-,-,h4,-,-,rfl⟩:=h;intro k hk;rcases List.mem_cons.1 hk with rfl | hk
 ·exact Ob.lt h1
 ·exact h4.lt k hk
theorem q8m.kept {S:List Nat} {w w':World} {R B:List Nat} {b:Nat} {x:Pt} (h:q8m w R B b x) (F:Fr S w w') (hS:∀ k,k∈B->k∉S) (hR:∀ k,k∈R->k∉S):q8m w' R B b x:=by
 obtain ⟨dv,wp,xp,mp,Bx,h1,h2,h3,h4,h5,h6,rfl⟩:=h;refine ⟨dv,wp,xp,mp,Bx,Ob.kept h1 F (hS b Lc),h2.kept F (fun k hk=>hR k (h3 k hk)),h3,?_,h5,fun k hk=>⟨qj (h6 k hk).1 F.size,(h6 k hk).2⟩,rfl⟩;rcases h4 with ⟨mm,mb,e1,e2,h,hm⟩ | ⟨e1,e2,cl,xb,e3,e4,h,rfl⟩ | ⟨e1,e2,e3,e4,wb,e5,h,rfl⟩
 ·exact .inl ⟨mm,mb,e1,e2,h.kept F (fun k hk=>hS k (List.mem_cons_of_mem _ hk)) hR,hm⟩
 ·exact .inr (.inl ⟨e1,e2,cl,xb,e3,e4,Ob.kept h F (hS xb Lc),rfl⟩)
 ·exact .inr (.inr ⟨e1,e2,e3,e4,wb,e5,Ob.kept h F (hS wb Lc),rfl⟩)
structure V9 (N:Nat) (x:Pt):Prop where
 oc:x.c.Ok
 ok:0<=x.key/\x.key<=63
 ow:x.w.c=x.c/\x.w.key=x.key
 ox:∀ cl,x.x=some cl->cl.c=x.c
 om:∀ mm,x.m=some mm->Xg N mm/\mm.f≠[]
theorem V9.more {N:Nat} {x:Pt} (h:V9 N x):V9 (N+1) x:=⟨h.oc,h.ok,h.ow,h.ox,fun mm e=>⟨⟨(h.om mm e).1.c,(h.om mm e).1.f,Nat.le_succ_of_le (h.om mm e).1.len⟩,(h.om mm e).2⟩⟩
theorem V9.new {c:Cf} (hc:c.Ok) {key:Int} (hk:0<=key/\key<=63) (data:Int) (ds:List Int):V9 1 (Pt.new c key data ds):=⟨hc,hk,⟨rfl,rfl⟩,fun cl h=>Ol,fun mm h=>Ol⟩
theorem V9.step {N:Nat} {x:Pt} (hN:1<=N) (h:V9 N x) (s:St):V9 (N+1) (x.step s).1:=by
 have hm:=h.more;unfold Pt.step;split
 ·exact hm
 ·cases em:x.m with
  | some m =>
   simp only;obtain ⟨q1,q2⟩:=h.om m em;by_cases e0:(m.step s).1.f=[]
   ·rw [qf e0];exact ⟨h.oc,h.ok,⟨rfl,rfl⟩,fun cl e=>Lr,fun mm e=>Lr⟩
   ·rw [qd e0];exact ⟨h.oc,h.ok,h.ow,h.ox,fun mm e=>by simp only [Option.some.injEq] at e;rw [<- e];exact ⟨q1.step s,e0⟩⟩
  | none =>
   simp only;cases ex:x.x with
   | some cl =>
    simp only;have hcl:∀ c2,some (cl.step s).1=some c2->c2.c=x.c:=fun c2 e=>by simp only [Option.some.injEq] at e;rw [<- e];exact (q78 cl s).trans (h.ox cl ex)
    split
    ·split
     ·exact Ed
     ·refine ⟨h.oc,h.ok,h.ow,hcl,fun mm e=>?_⟩;simp only [Option.some.injEq] at e;have h1:=Xg.new h.oc (cl.step s).1.chunk x.draws;rw [<- e];exact ⟨⟨h1.c,h1.f,qh h1.len Lb⟩,by simp [Md.new]⟩
    ·exact Ed
   | none =>
    have hw:=Jr x.w s;simp only;split
    ·exact ⟨h.oc,h.ok,⟨hw.1.trans h.ow.1,hw.2.trans h.ow.2⟩,fun c2 e=>by simp only [Option.some.injEq] at e;rw [<- e];rfl,fun mm e=>by first | cases e | (simp only at e;rw [em] at e;cases e) | (rw [em] at e;cases e)⟩
    ·exact ⟨h.oc,h.ok,⟨hw.1.trans h.ow.1,hw.2.trans h.ow.2⟩,fun c2 e=>by first | cases e | (simp only at e;rw [ex] at e;cases e) | (rw [ex] at e;cases e),fun mm e=>by first | cases e | (simp only at e;rw [em] at e;cases e) | (rw [em] at e;cases e)⟩
theorem q82 (x:Pt) (ho:x.over=true) (b p:Nat) (dv:Value) (wp xp mp:Option Nat) (w:World) (h:Vk w b x dv wp xp mp) :
  Calls Tryz.prog 74 #[.pointer (some ⟨b,0,none⟩),.pointer (some ⟨p,0,none⟩)] w fun e w'=>e = .returned (.bool true)/\w'=w:=by
 have c10:w.cell? ⟨b,10,none⟩=some (.bool x.over):=h.cell rfl;rw [ho] at c10;go_enter Tryz.func74,Tryz.ntmps74;exact Ei
theorem q8r (N:Nat) (hN:N<=5000000) (x:Pt) (hx:V9 N x) (R B:List Nat) (b p q:Nat) (s:St) (w:World) (h:q8m w R B b x) (hA:Rar w p q s) (hp:p∉B) (hq:q∉B) (hpR:p∉R) (hqR:q∉R) :
  Calls Tryz.prog 74 #[.pointer (some ⟨b,0,none⟩),.pointer (some ⟨p,0,none⟩)] w (Stp w (fun w' B'=>q8m w' R B' b (x.step s).1) B p q (x.step s).2 (x.step s).1.over):=by
 obtain ⟨dv,wp,xp,mp,Bx,h1,h2,h3,h4,h5,h6,rfl⟩:=h;have hlt:=h4.lt;have hbl:=Ob.lt h1;simp only [List.mem_cons,not_or] at hp hq;have nbp:¬ b=p:=fun e=>hp.1 e.symm
 have nbq:¬ b=q:=fun e=>hq.1 e.symm
 have nbR:b∉R:=fun e=>(h6 b e).2.1 rfl
 cases ho:x.over with
 | true =>
  have e1:x.step s=(x,s):=by unfold Pt.step;rw [qf ho]
  rw [e1];refine (q82 x ho b p dv wp xp mp w h1).mono ?_;rintro e w' ⟨rfl,rfl⟩;exact ⟨by simp only;rw [ho],⟨_,⟨dv,wp,xp,mp,Bx,h1,h2,h3,h4,h5,h6,rfl⟩,fun k hk=>.inl hk⟩,hA,Fr.refl _ _⟩
 | false =>
  have hov:¬ x.over=true:=by rw [ho];simp
  rcases h4 with ⟨mm,mb,em,rfl,hM,hmb⟩ | ⟨em,rfl,cl,xb,ex,rfl,hX,rfl⟩ | ⟨em,rfl,ex,rfl,wb,rfl,hW,rfl⟩
  ·obtain ⟨i1,i2⟩:=hx.om mm em
   have e1:x.step s=(if (mm.step s).1.f=[] then { x with placed:=false,draws:=(mm.step s).1.draws,e:=(mm.step s).1.e,over:=decide ((mm.step s).1.e≠0),m:=none,x:=none,w:=Wk.new x.c x.key } else { x with placed:=false,draws:=(mm.step s).1.draws,m:=some (mm.step s).1 },(mm.step s).2):=by unfold Pt.step;rw [qd hov,em]
   rw [e1];refine (put_m N hN x mm i1 i2 ho b mb p q dv wp xp R Bx s w h1 hM hA ⟨h5,hp.2,hq.2⟩ ⟨nbR,hpR,hqR⟩ nbp nbq (fun e=>h5 (by rw [e];exact hmb))).mono ?_;rintro e w' ⟨haf,hA',F⟩;have F':Fr (p :: q :: b :: Bx) w w':=F.mono Ml;rcases haf with ⟨hf0,he,dv',B',ho',hd',hr',hM',hB'⟩ | ⟨hf0,he,dv',wb,ho',hd',hr',hwb,hW'⟩
   ·rw [qd hf0];refine ⟨by rw [he];simp only;rw [ho],⟨b :: B',⟨dv',wp,xp,some mb,B',ho',hd',hr',.inl ⟨_,mb,rfl,rfl,hM',hM'.self⟩,fun hi=>?_,fun k hk=>⟨qj (h6 k hk).1 F.size,(h6 k hk).2.1,fun hi=>?_⟩,rfl⟩,fun k hk=>?_⟩,hA',F'⟩
    ·rcases hB' b hi with e | e
     ·exact h5 e
     ·omega
    ·rcases hB' k hi with e | e
     ·exact (h6 k hk).2.2 e
     ·have:=(h6 k hk).1;omega
    ·rcases List.mem_cons.1 hk with rfl | hk
     ·exact .inl Lc
     ·exact (hB' k hk).imp (fun e=>by simp [e]) id
   ·rw [qf hf0];refine ⟨he,⟨b :: [wb],⟨dv',some wb,none,none,[wb],ho',hd',hr',.inr (.inr ⟨rfl,rfl,rfl,rfl,wb,rfl,hW',rfl⟩),by simp;omega,fun k hk=>⟨qj (h6 k hk).1 F.size,(h6 k hk).2.1,by have:=(h6 k hk).1;simp;omega⟩,rfl⟩,fun k hk=>?_⟩,hA',F'⟩;simp only [List.mem_cons,List.not_mem_nil,or_false] at hk;rcases hk with rfl | rfl
    ·exact .inl Lc
    ·exact .inr hwb
  ·have e1:x.step s=(let y:=(cl.step s).1
     let p':Pt:={ x with x:=some y,placed:=decide (cl.i<0) && decide (0<=y.i) }
     if y.line=0 then (if 0<=y.version then { p' with version:=y.version,over:=true } else { p' with m:=some (Md.new x.c y.chunk x.draws) }) else p',(cl.step s).2):=by
    unfold Pt.step;rw [qd hov,em,ex]
   rw [e1];simp only [List.mem_cons,List.not_mem_nil,or_false] at hp hq h5 h6;refine (put_x x hx.oc cl (by rw [hx.ox cl ex];exact hx.oc) ho b xb p q dv wp R s w h1 hX hA h2 h3 (fun k hk=>(h6 k hk).1) ⟨nbR,fun e=>(h6 xb e).2.2 rfl,hpR,hqR⟩ h5 nbp nbq (fun e=>hp.2 e.symm) (fun e=>hq.2 e.symm)).mono ?_;rintro e w' ⟨haf,hX',hA',F⟩;have F':Fr (p :: q :: b :: [xb]) w w':=F.mono Ml
   have hd':=h2.kept F (fun k hk hi=>by
    have hkR:=h3 k hk
    simp only [List.mem_cons,List.not_mem_nil,or_false] at hi
    rcases hi with rfl | rfl | rfl | rfl
    ·exact nbR hkR
    ·exact (h6 _ hkR).2.2 rfl
    ·exact hpR hkR
    ·exact hqR hkR)
   have h6':∀ k,k∈R->k<w'.heap.size/\k≠b/\k∉[xb]:=fun k hk=>⟨qj (h6 k hk).1 F.size,(h6 k hk).2.1,by simpa using (h6 k hk).2.2⟩
   rcases haf with ⟨hl0,he,ho'⟩ | ⟨hl0,hv0,he,ho'⟩ | ⟨hl0,hv0,he,mb,B',ho',hM',hB'⟩
   ·simp only;rw [qd hl0];exact ⟨by rw [he];simp only;rw [ho],⟨b :: [xb],⟨dv,wp,some xb,none,[xb],ho',hd',h3,.inr (.inl ⟨em,rfl,_,xb,rfl,rfl,hX',rfl⟩),by simpa using h5,h6',rfl⟩,fun k hk=>.inl hk⟩,hA',F'⟩
   ·simp only;rw [qf hl0,qf hv0];exact ⟨he,⟨b :: [xb],⟨dv,wp,some xb,none,[xb],ho',hd',h3,.inr (.inl ⟨em,rfl,_,xb,rfl,rfl,hX',rfl⟩),by simpa using h5,h6',rfl⟩,fun k hk=>.inl hk⟩,hA',F'⟩
   ·simp only;rw [qf hl0,qd Lb];refine ⟨by rw [he];simp only;rw [ho],⟨b :: B',⟨dv,wp,some xb,some mb,B',ho',hd',h3,.inl ⟨_,mb,rfl,rfl,hM',hM'.self⟩,fun hi=>?_,fun k hk=>⟨(h6' k hk).1,(h6' k hk).2.1,fun hi=>?_⟩,rfl⟩,fun k hk=>?_⟩,hA',F'⟩
    ·have:=hB' b hi;omega
    ·have:=hB' k hi;have:=(h6 k hk).1;omega
    ·rcases List.mem_cons.1 hk with rfl | hk
     ·exact .inl Lc
     ·exact .inr (hB' k hk)
  ·have e1:x.step s=(if (x.w.step s).1.line=0 then { x with placed:=false,w:=(x.w.step s).1,x:=some (Cl.new x.c (x.w.step s).1.at_ x.key x.data) } else { x with placed:=false,w:=(x.w.step s).1 },(x.w.step s).2):=by unfold Pt.step;rw [qd hov,em,ex]
   rw [e1];simp only [List.mem_cons,List.not_mem_nil,or_false] at hp hq h5 h6;refine (put_w x hx.oc hx.ow hx.ok ho b wb p q dv s w h1 hW hA h5 nbp nbq (fun e=>hp.2 e.symm) (fun e=>hq.2 e.symm)).mono ?_;rintro e w' ⟨he,hW',hA',haf,F⟩;have F':Fr (p :: q :: b :: [wb]) w w':=F.mono Ml
   have hd':=h2.kept F (fun k hk hi=>by
    have hkR:=h3 k hk
    simp only [List.mem_cons,List.not_mem_nil,or_false] at hi
    rcases hi with rfl | rfl | rfl | rfl
    ·exact nbR hkR
    ·exact (h6 _ hkR).2.2 rfl
    ·exact hpR hkR
    ·exact hqR hkR)
   rcases haf with ⟨hl0,xb,hxb,ho',hX'⟩ | ⟨hl0,ho'⟩
   ·rw [qf hl0];refine ⟨by rw [he];simp only;rw [ho],⟨b :: [xb],⟨dv,some wb,some xb,none,[xb],ho',hd',h3,.inr (.inl ⟨em,rfl,_,xb,rfl,rfl,hX',rfl⟩),by simp;omega,fun k hk=>⟨qj (h6 k hk).1 F.size,(h6 k hk).2.1,by have:=(h6 k hk).1;simp;omega⟩,rfl⟩,fun k hk=>?_⟩,hA',F'⟩;simp only [List.mem_cons,List.not_mem_nil,or_false] at hk;rcases hk with rfl | rfl
    ·exact .inl Lc
    ·exact .inr hxb
   ·rw [qd hl0];exact ⟨by rw [he];simp only;rw [ho],⟨b :: [wb],⟨dv,some wb,none,none,[wb],ho',hd',h3,.inr (.inr ⟨em,rfl,ex,rfl,wb,rfl,hW',rfl⟩),by simpa using h5,fun k hk=>⟨qj (h6 k hk).1 F.size,(h6 k hk).2.1,by simpa using (h6 k hk).2.2⟩,rfl⟩,fun k hk=>.inl hk⟩,hA',F'⟩
theorem Ub (c:Cf) (key data:Int) (ds:List Int) (dv:Value) (R:List Nat) (w:World) (hD:Sq fI w dv ds) (hdR:∀ k,k∈dv.ownBlock.toList->k∈R) (hR:∀ k,k∈R->k<w.heap.size) :
  Calls Tryz.prog 69 #[c.val,.int .i64 key,.int .i64 data,dv] w fun e w'=>∃ b B,e = .returned (.pointer (some ⟨b,0,none⟩))/\q8m w' R B b (Pt.new c key data ds)/\(∀ k,k∈B->w.heap.size<=k)/\Fr [] w w':=by
 obtain ⟨av,cv,rfl,hcv,hmv,-⟩:=id hD;unfold Cf.val;have F0:=(Fr.refl [] w).alloc (.cells #[.int .i64 c.t,.int .i64 c.c,.int .i64 c.wd,.int .i64 c.v] 23);have o0:=Ob.new w 23 #[.int .i64 c.t,.int .i64 c.c,.int .i64 c.wd,.int .i64 c.v];go_enter Tryz.func69,Tryz.ntmps69;go_wp2_with fail;generalize (w.alloc (.cells #[.int .i64 c.t,.int .i64 c.c,.int .i64 c.wd,.int .i64 c.v] 23))=w1 at *;generalize w.heap.size=q at o0 ⊢;refine z7 Le [] (fun w2 F2=>?_);refine epq [true,true,true,true,true,true,false,false,false,false] 4 F2 ?_;apply qg;refine ⟨fun wf Ff=>?_,?_⟩
 ·obtain ⟨c0,c1,c2,c3⟩:=Pl.yu (Ob.up o0 Ff);have k0:=qb c0;have k1:=qb c1;have k2:=qb c2;have k3:=qb c3;clear c0 c1 c2 c3;exact Ab
 refine eoq 6 (fun w3 F3=>?_);have E:=F2.trans F3;clear F2 F3 o0;go_wp2_with fail;refine (Zy c key w3).mono ?_;rintro e w4 ⟨wb,rfl,hwb,W4,F4⟩;have HE:=q9 (qh F0.size (qh E.size hwb));replace E:=E.trans F4;clear F4 hwb;go_wp2_with fail;refine ql ⟨E,?_⟩;refine eoq 7 (fun w5 F5=>?_);replace E:=E.trans F5;replace W4:=Ob.up W4 F5;clear F5;go_wp2_with fail;refine ql ⟨E,?_⟩;refine eoq 8 (fun w6 F6=>?_);replace E:=E.trans F6;replace W4:=Ob.up W4 F6;clear F6;go_wp2_with fail;have FA:=(Fr.refl [] w6).alloc (.cells (PtC (Pt.new c key data ds) (.slice av ds.length cv) (some wb) none none) 117);have oP:Vk _ w6.heap.size (Pt.new c key data ds) (.slice av ds.length cv) (some wb) none none:=Ob.new w6 117 _;have W7:=Ob.up W4 FA;have HP:=q9 (qc (qh F0.size E.size) (Ob.lt W4));refine ql ⟨E.trans FA,?_⟩;refine eoq 9 (fun w8 F8=>?_);have E2:=(E.trans FA).trans F8;have o8:=Ob.up oP F8;have W8:=Ob.up W7 F8;clear E FA F8 oP W7 W4;generalize w6.heap.size=b at *;go_wp2_with fail;refine ql ⟨E2,?_⟩;refine zr Le (fun w9 F9=>?_);have E3:=q9 (F0.trans (E2.trans F9));have HO:=q9 (qc (Ob.up o8 F9) (Ob.up W8 F9));clear o8 W8 E2 F9 F0;go_wp2_with fail;go_ret;have h1:=HE.out;have h2:=HP.out;refine ⟨b,b :: [wb],rfl,⟨_,some wb,none,none,[wb],HO.out.1,hD.up E3.out,hdR,.inr (.inr ⟨rfl,rfl,rfl,rfl,wb,rfl,HO.out.2,rfl⟩),by simp;omega,fun k hk=>⟨qj (hR k hk) E3.out.size,by have:=hR k hk;omega,by have:=hR k hk;simp;omega⟩,rfl⟩,fun k hk=>?_,E3.out⟩;simp only [List.mem_cons,List.not_mem_nil,or_false] at hk;exact Hz
end Go.Proofs.YtleclbldlladmaaGreat.Mx
