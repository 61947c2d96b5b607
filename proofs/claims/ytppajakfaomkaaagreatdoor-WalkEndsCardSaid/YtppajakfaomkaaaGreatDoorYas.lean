/- Parts. -/
import Derived.Test.YtppajakfaomkaaaGreatDoorYaj
import Derived.Test.YtppajakfaomkaaaGreatDoorYaq
set_option linter.unusedVariables false
set_option linter.unusedSimpArgs false
set_option maxRecDepth 100000
set_option maxHeartbeats 12800000
namespace Go.Proofs.YtppajakfaomkaaaGreatDoor.Mx
open Go.RowKit Ar Ref
structure Xm (x:Lok):Prop where
 c:x.c.Ok
 i0:0<=x.i
 i1:x.i<=16
 len:(x.l.length:Int)<=x.i
 one:x.line=1->x.l=[]
 two:2<=x.line->x.i<x.count
 cnt:x.count<=x.c.c
theorem Xm.new {c:Cf} (hc:c.Ok) (chunk lo hi most:Int):Xm (Lok.new c chunk lo hi most):=by
 have h1:=hc.c2;have h2:=hc.t1
 exact ⟨hc,by simp [Lok.new],by simp [Lok.new],by simp [Lok.new],fun _=>rfl,by simp [Lok.new],by simp [Lok.new];omega⟩
theorem q0r (l:List It) (x:It):(q0b l x).length=l.length+1:=by
 induction l with
 | nil=>rfl
 | cons y r ih=>unfold q0b;split <;> simp [ih]
theorem q0s (l:List It) (x:It):(q0y l x).length<=l.length+1:=by
 unfold q0y;split
 ·simp
 ·rw [q0r];omega
theorem Zb {x:Lok} (hc:x.c.Ok) (h1:-1<=x.i) (h2:x.i<x.count\/x.i = -1) (h3:(x.l.length:Int)<=x.i+1) (h4:x.count<=x.c.c):Xm x.on:=by
 have:=hc.c16
 unfold Lok.on
 split
 ·exact ⟨hc,by simp only;omega,by simp only;omega,by simp only;omega,by simp,by simp,h4⟩
 ·exact ⟨hc,by simp only;omega,by simp only;omega,by simp only;omega,by simp,by simp only;intro;omega,h4⟩
theorem Yw {x:Lok} (hc:x.c.Ok) (h1:0<=x.i) (h2:x.i<x.count) (h3:(x.l.length:Int)<=x.i) (h4:x.count<=x.c.c):Xm x.seven:=by
 have:=hc.c16
 unfold Lok.seven
 split
 ·exact Zb hc (by simp only;omega) (.inl h2) (by simp only;omega) h4
 ·exact ⟨hc,h1,by simp only;omega,h3,by simp,fun _=>h2,h4⟩
theorem Rm {x:Lok} (h:Xm x) (v:Int) (hl:x.live=true):Xm (x.next v):=by
 obtain ⟨hc,i0,i1,len,one,two,cnt⟩:=h
 have h16:=hc.c16
 have hc2:=hc.c2
 have ht1:=hc.t1
 unfold Lok.live at hl
 simp only [Bool.and_eq_true,decide_eq_true_eq] at hl
 unfold Lok.next
 split
 ·rename_i e
  have hl0:=one e
  exact Zb hc (by simp only;omega) (.inr rfl) (by simp only [hl0];simp) (by simp only;omega)
 ·have h2:=two (by omega)
  split
  ·split
   ·exact Zb hc (by simp only;omega) (.inl h2) (by simp only;omega) cnt
   ·exact ⟨hc,i0,i1,len,by simp,fun _=>h2,cnt⟩
  ·split
   ·split
    ·exact Zb hc (by simp only;omega) (.inl h2) (by simp only;omega) cnt
    ·split
     ·exact ⟨hc,i0,i1,len,by simp,fun _=>h2,cnt⟩
     ·exact Yw hc i0 h2 len cnt
   ·split
    ·exact ⟨hc,i0,i1,len,by simp,fun _=>h2,cnt⟩
    ·split
     ·exact ⟨hc,i0,i1,len,by simp,fun _=>h2,cnt⟩
     ·split
      ·split
       ·exact Zb hc (by simp only;omega) (.inl h2) (by simp only;omega) cnt
       ·exact Yw hc i0 h2 len cnt
      ·exact Zb hc (by simp only;omega) (.inl h2) (by have:=q0s x.l ⟨x.k,Va x.s,v⟩;simp only;omega) cnt
theorem Xm.step {x:Lok} (h:Xm x) (s:St):Xm (x.step s).1:=by
 unfold Lok.step
 split
 ·rename_i hl;exact Rm h _ hl
 ·exact h
def Lok.as (x:Lok) (v:Value):Lok:={ x with lv:=v }
theorem q3j (x:Lok) (v:Value):(x.as v).on=x.on.as v:=by unfold Lok.on Lok.as;simp only;split <;> rfl
theorem q1k (x:Lok) (v:Value):(x.as v).seven=x.seven.as v:=by
 unfold Lok.seven
 rw [show (x.as v).skips=x.skips from rfl]
 split
 ·exact q3j { x with line:=7 } v
 ·rfl
theorem qb0 (x:Lok) (v:Value) (u:Int):(x.as v).next u=(x.next u).as v:=by
 unfold Lok.next
 rw [show (x.as v).line=x.line from rfl,show (x.as v).lo=x.lo from rfl,show (x.as v).hi=x.hi from rfl,show (x.as v).s=x.s from rfl]
 split
 ·exact q3j { x with count:=max 0 (min u x.c.c),i:=-1 } v
 ·split
  ·split
   ·exact q3j { x with s:=u,line:=3 } v
   ·rfl
  ·split
   ·split
    ·exact q3j { x with k:=u } v
    ·split
     ·rfl
     ·exact q1k { x with k:=u } v
   ·split
    ·rfl
    ·split
     ·rfl
     ·split
      ·split
       ·exact q3j { x with s:=u } v
       ·exact q1k { x with s:=u } v
      ·exact q3j { x with l:=q0y x.l ⟨x.k,Va x.s,u⟩ } v
theorem qbg (x:Lok) (v:Value) (s:St):(x.as v).step s=((x.step s).1.as v,(x.step s).2):=by
 unfold Lok.step
 rw [show (x.as v).live=x.live from rfl,show (x.as v).told s=x.told s from rfl,show (x.as v).act s=x.act s from rfl,qb0]
 split <;> rfl
def Stp (w:World) (At:World->List Nat->Prop) (B:List Nat) (p q:Nat) (t:St) (over:Bool) (e:Ending) (w':World):Prop :=
 e = .returned (.bool over)/\(∃ B',At w' B'/\∀ k,k∈B'->k∈B\/w.heap.size<=k)/\Rar w' p q t/\Fr (p :: q :: B) w w'
theorem Stp.of {w w':World} {At:World->List Nat->Prop} {B B':List Nat} {p q:Nat} {t:St} {over:Bool} {e:Ending} (h1:e = .returned (.bool over)) (h2:At w' B') (h3:∀ k,k∈B'->k∈B\/w.heap.size<=k) (h4:Rar w' p q t) (h5:Fr (p :: q :: B) w w'):Stp w At B p q t over e w':=⟨h1,⟨B',h2,h3⟩,h4,h5⟩
def xw:Option Nat->Value
 | none=>.pointer none
 | some b=>.pointer (some ⟨b,0,none⟩)
def Mk (w:World) (At:World->List Nat->Nat->Prop) (e:Ending) (w':World):Prop:=∃ b B,e = .returned (.pointer (some ⟨b,0,none⟩))/\At w' B b/\(∀ k,k∈B->w.heap.size<=k)/\Fr [] w w'
def Rh (w:World) (B:List Nat) (b:Nat) (x:Lok):Prop:=∃ lv,xu w b (x.as lv)/\Sq fT w lv x.l/\b∉lv.ownBlock.toList/\B=b :: lv.ownBlock.toList/\∀ k,k∈B->k<w.heap.size
theorem Rh.lt {w:World} {B:List Nat} {b:Nat} {x:Lok} (h:Rh w B b x):∀ k,k∈B->k<w.heap.size:=by obtain ⟨lv,h1,h2,h3,h4,h5⟩:=h;exact h5
theorem Rh.kept {S:List Nat} {w w':World} {B:List Nat} {b:Nat} {x:Lok} (h:Rh w B b x) (f:Fr S w w') (hS:∀ k,k∈B->k∉S):Rh w' B b x:=by
 obtain ⟨lv,h1,h2,h3,rfl,h5⟩:=h
 exact ⟨lv,Ob.kept h1 f (hS b (by simp)),h2.kept f (fun g hg=>hS g (by simp only [List.mem_cons];exact .inr hg)),h3,rfl,fun k hk=>qj (h5 k hk) f.size⟩
theorem Rh.new {w:World} {b:Nat} {c:Cf} {chunk lo hi most:Int} (h:xu w b (Lok.new c chunk lo hi most)):Rh w [b] b (Lok.new c chunk lo hi most) :=
 ⟨.slice none 0 0,h,Sq.nil w,by simp [Value.ownBlock],by simp [Value.ownBlock],fun k hk=>by simp at hk;subst hk;exact Ob.lt h⟩
theorem Q7 {α:Type} {f:α->List Value} {w:World} {v:Value} {xs:List α} (h:Sq f w v xs) (hne:xs≠[]):∀ g,g∈v.ownBlock.toList->g<w.heap.size:=by
 obtain ⟨a,cap,rfl,-,-,h6⟩:=h
 rcases h6 with h0 | ⟨g,off,rfl,hg,-⟩
 ·exact absurd (List.eq_nil_of_length_eq_zero h0) hne
 ·intro k hk;simp [Value.ownBlock] at hk;subst hk;exact hg
theorem q5t (x:Lok) (hx:Xm x) (B:List Nat) (b p q:Nat) (s:St) (w:World) (h:Rh w B b x) (hA:Rar w p q s) (hp:p∉B) (hq:q∉B) :
  Calls Tryz.prog 49 #[.pointer (some ⟨b,0,none⟩),.pointer (some ⟨p,0,none⟩)] w (Stp w (fun w' B'=>Rh w' B' b (x.step s).1) B p q (x.step s).2 (decide ((x.step s).1.line=0))):=by
 obtain ⟨lv,h1,h2,h3,rfl,h5⟩:=h
 have hbl:=h5 b (by simp)
 simp only [List.mem_cons,not_or] at hp hq
 have h6:=hx.i1;have h7:=hx.i0;have h8:=hx.len
 refine (q5n (x.as lv) hx.c ⟨by show -1<=x.i;omega,by show x.i<=100;omega⟩ (by show x.l.length<=900;omega) b p q s w h1 hA (Ne.symm hp.1) (Ne.symm hq.1) h2 h3 hp.2 hq.2).mono ?_
 rintro e w' ⟨he,⟨lv',k1,k2,k3⟩,k4,k5⟩
 rw [qbg] at he k1 k2 k3 k4
 have hb':b∉lv'.ownBlock.toList:=by
  rcases k3 with k3 | ⟨-,k3⟩
  ·rw [k3];exact h3
  ·intro hi;have:=k3 b hi;omega
 refine Stp.of he (B':=b :: lv'.ownBlock.toList) ⟨lv',k1,k2,hb',rfl,fun k hk=>?_⟩ (fun k hk=>?_) k4 (k5.mono (by intro k hk;simp at hk ⊢;rcases hk with rfl | rfl | rfl <;> simp))
 ·rcases List.mem_cons.1 hk with rfl | hk
  ·exact Ob.lt k1
  ·rcases k3 with k3 | ⟨hne,-⟩
   ·rw [k3] at hk;exact qj (h5 k (by simp only [List.mem_cons];exact .inr hk)) k5.size
   ·exact Q7 k2 hne k hk
 ·rcases List.mem_cons.1 hk with rfl | hk
  ·exact .inl (by simp)
  ·rcases k3 with k3 | ⟨-,k3⟩
   ·rw [k3] at hk;exact .inl (by simp only [List.mem_cons];exact .inr hk)
   ·exact .inr (k3 k hk)
def Gt.cells (g:Gt) (bw:Nat) (lp:Option Nat):Array Value:=#[.int .i64 g.key,.int .i64 g.c.t,.int .i64 g.c.c,.int .i64 g.c.wd,.int .i64 g.c.v,.pointer (some ⟨bw,0,none⟩),xw lp,.bool g.over]
def q9p (w:World) (b:Nat) (g:Gt) (bw:Nat) (lp:Option Nat):Prop:=Ob w b 204 (g.cells bw lp)
theorem Qx {w:World} {b bw:Nat} {lp:Option Nat} {g:Gt} (h:q9p w b g bw lp):w.cell? ⟨b,0,none⟩=some (.int .i64 g.key)/\w.cell? ⟨b,1,none⟩=some (.int .i64 g.c.t)/\w.cell? ⟨b,2,none⟩=some (.int .i64 g.c.c)/\w.cell? ⟨b,3,none⟩=some (.int .i64 g.c.wd)/\w.cell? ⟨b,4,none⟩=some (.int .i64 g.c.v)/\w.cell? ⟨b,5,none⟩=some (.pointer (some ⟨bw,0,none⟩))/\w.cell? ⟨b,6,none⟩=some (xw lp)/\w.cell? ⟨b,7,none⟩=some (.bool g.over) :=
 ⟨h.cell rfl,h.cell rfl,h.cell rfl,h.cell rfl,h.cell rfl,h.cell rfl,h.cell rfl,h.cell rfl⟩
def OpL (w:World) (B:List Nat) (l:Option Lok) (lp:Option Nat):Prop:=match l with | none=>lp=none/\B=[] | some x=>∃ bl,lp=some bl/\Rh w B bl x
theorem OpL.kept {S:List Nat} {w w':World} {B:List Nat} {l:Option Lok} {lp:Option Nat} (h:OpL w B l lp) (f:Fr S w w') (hS:∀ k,k∈B->k∉S):OpL w' B l lp:=by
 cases l with
 | none=>exact h
 | some x=>obtain ⟨bl,h1,h2⟩:=h;exact ⟨bl,h1,h2.kept f hS⟩
theorem OpL.lt {w:World} {B:List Nat} {l:Option Lok} {lp:Option Nat} (h:OpL w B l lp):∀ k,k∈B->k<w.heap.size:=by
 cases l with
 | none=>rw [h.2];simp
 | some x=>obtain ⟨bl,h1,h2⟩:=h;exact h2.lt
def q76 (w:World) (B:List Nat) (b:Nat) (g:Gt):Prop:=∃ bw lp B2,q9p w b g bw lp/\Qy w bw g.w/\OpL w B2 g.l lp/\b≠bw/\b∉B2/\bw∉B2/\B=b :: bw :: B2
theorem q76.lt {w:World} {B:List Nat} {b:Nat} {g:Gt} (h:q76 w B b g):∀ k,k∈B->k<w.heap.size:=by
 obtain ⟨bw,lp,B2,h1,h2,h3,h4,h5,h6,rfl⟩:=h
 intro k hk
 simp only [List.mem_cons] at hk
 rcases hk with rfl | rfl | hk
 ·exact Ob.lt h1
 ·exact Ob.lt h2
 ·exact h3.lt k hk
theorem q76.kept {S:List Nat} {w w':World} {B:List Nat} {b:Nat} {g:Gt} (h:q76 w B b g) (f:Fr S w w') (hS:∀ k,k∈B->k∉S):q76 w' B b g:=by
 obtain ⟨bw,lp,B2,h1,h2,h3,h4,h5,h6,rfl⟩:=h
 exact ⟨bw,lp,B2,Ob.kept h1 f (hS _ (by simp)),Ob.kept h2 f (hS _ (by simp)),h3.kept f (fun k hk=>hS k (by simp [hk])),h4,h5,h6,rfl⟩
structure q78 (g:Gt):Prop where
 c:g.c.Ok
 wc:g.w.c=g.c
 wk:g.w.key=g.key
 k0:0<=g.key/\g.key<=63
 l:∀ x,g.l=some x->Xm x
theorem Kb (x:Wk) (s:St):(x.step s).1.c=x.c/\(x.step s).1.key=x.key:=by
 unfold Wk.step
 split
 ·unfold Wk.next Wk.head Wk.ends
  (repeat' split) <;> exact ⟨rfl,rfl⟩
 ·exact ⟨rfl,rfl⟩
theorem q78.new {c:Cf} (hc:c.Ok) {key:Int} (hk:0<=key/\key<=63):q78 (Gt.new c key):=⟨hc,rfl,rfl,hk,fun x h=>by cases h⟩
theorem q78.step {g:Gt} (h:q78 g) (s:St):q78 (g.step s).1:=by
 obtain ⟨h1,h2,h3,h4,h5⟩:=h
 unfold Gt.step
 split
 ·exact ⟨h1,h2,h3,h4,h5⟩
 ·split
  ·rename_i x hx
   exact ⟨h1,h2,h3,h4,fun y hy=>by cases hy;exact (h5 x hx).step s⟩
  ·rename_i hx
   have:=Kb g.w s
   simp only
   split
   ·exact ⟨h1,this.1.trans h2,this.2.trans h3,h4,fun y hy=>by cases hy;exact Xm.new h1 _ _ _ _⟩
   ·exact ⟨h1,this.1.trans h2,this.2.trans h3,h4,fun y hy=>by rw [hx] at hy;cases hy⟩
theorem q7r (g:Gt) (hg:q78 g) (B:List Nat) (b p q:Nat) (s:St) (w:World) (h:q76 w B b g) (hA:Rar w p q s) (hp:p∉B) (hq:q∉B) :
  Calls Tryz.prog 128 #[.pointer (some ⟨b,0,none⟩),.pointer (some ⟨p,0,none⟩)] w (Stp w (fun w' B'=>q76 w' B' b (g.step s).1) B p q (g.step s).2 (g.step s).1.over):=by
 obtain ⟨bw,lp,B2,h1,h2,h3,h4,h5,h6,rfl⟩:=h
 have hlt:=q76.lt (b:=b) ⟨bw,lp,B2,h1,h2,h3,h4,h5,h6,rfl⟩
 generalize hy:g.step s=y
 have HY:=q9 hy
 clear hy
 obtain ⟨c0,c1,c2,c3,c4,c5,c6,c7⟩:=Qx h1
 have z:=h1.frozen
 simp only [List.mem_cons,not_or] at hp hq
 cases ho:g.over with
 | true =>
  rw [ho] at c7
  have hn:y=(g,s):=by rw [<- HY.out];unfold Gt.step;rw [qf ho]
  subst hn
  have HO:=q9 ho
  clear ho
  go_enter Tryz.func128,Tryz.ntmps128
  go_wp2_with fail
  go_ret
  exact ⟨by rw [HO.out];rfl,⟨_,⟨bw,lp,B2,h1,h2,h3,h4,h5,h6,rfl⟩,fun k hk=>.inl hk⟩,hA,Fr.refl _ _⟩
 | false =>
  rw [ho] at c7
  have HO:=q9 ho
  clear ho
  cases hl:g.l with
  | some x =>
   rw [hl] at h3
   obtain ⟨bl,rfl,h3⟩:=h3
   unfold xw at c6
   simp only at c6
   have hxok:=hg.l x hl
   have hn:y=({ g with l:=some (x.step s).1,over:=decide ((x.step s).1.line=0) },(x.step s).2):=by rw [<- HY.out];unfold Gt.step;rw [qd (by rw [HO.out];simp),hl]
   subst hn
   have HL:=q9 (qc hl hxok)
   clear hl hxok
   go_enter Tryz.func128,Tryz.ntmps128
   go_wp2_with fail
   refine (q5t x HL.out.2 B2 bl p q s w h3 hA hp.2.2 hq.2.2).mono ?_;rintro e w5 ⟨rfl,⟨B3,k1,k2⟩,k3,k4⟩
   have hb5:b∉p :: q :: B2:=by simp only [List.mem_cons,not_or];exact ⟨Ne.symm hp.1,Ne.symm hq.1,h5⟩
   have hw5:bw∉p :: q :: B2:=by simp only [List.mem_cons,not_or];exact ⟨Ne.symm hp.2.1,Ne.symm hq.2.1,h6⟩
   have o5:q9p w5 b g bw (some bl):=Ob.kept h1 k4 hb5
   have wk5:Qy w5 bw g.w:=Ob.kept h2 k4 hw5
   have D5:Fr (p :: q :: b :: bw :: B2) w w5:=k4.mono (by intro k hk;simp only [List.mem_cons] at hk ⊢;rcases hk with h | h | h <;> simp [h])
   have hb3:b∉B3:=fun hi=>by rcases k2 b hi with h | h;exact h5 h;have:=hlt b (by simp);omega
   have hw3:bw∉B3:=fun hi=>by rcases k2 bw hi with h | h;exact h6 h;have:=hlt bw (by simp);omega
   have hpb:=hp.1
   have hqb:=hq.1
   clear c0 c1 c2 c3 c4 c5 c6 c7 z h1 h2 h3 k4
   obtain ⟨c0,c1,c2,c3,c4,c5,c6,c7⟩:=Qx o5
   have z:=o5.frozen
   generalize hov:decide ((x.step s).1.line=0)=ov at *
   go_wp2_with fail
   go_ret
   subst hov
   have SC:Fr [b] w5 (w5.setCell ⟨b,7,none⟩ (.bool (decide ((x.step s).1.line=0)))):=Fr.setCell _ (by simp)
   refine ⟨rfl,⟨b :: bw :: B3,⟨bw,some bl,B3,Ob.set o5 (i:=7) (.bool (decide ((x.step s).1.line=0))),Ob.other wk5 (Ne.symm h4) _,⟨bl,rfl,k1.kept SC (by intro k hk hi;simp at hi;subst hi;exact hb3 hk)⟩,h4,hb3,hw3,rfl⟩,fun k hk=>?_⟩,Rar.set k3 (Ne.symm hpb) (Ne.symm hqb) _,D5.setCell' _ (by simp)⟩
   simp only [List.mem_cons] at hk
   rcases hk with rfl | rfl | hk
   ·exact .inl (by simp)
   ·exact .inl (by simp)
   ·exact (k2 k hk).imp (fun h=>by simp [h]) id
  | none =>
   rw [hl] at h3
   obtain ⟨rfl,rfl⟩:=h3
   unfold xw at c6
   simp only at c6
   have hsn:y.2=(g.w.step s).2:=by rw [<- HY.out];unfold Gt.step;rw [qd (by rw [HO.out];simp),hl]
   have HL:=q9 hl
   clear hl
   go_enter Tryz.func128,Tryz.ntmps128
   go_wp2_with fail
   have hc:=hg.c
   refine (Js g.w (by rw [hg.wc];exact hg.c) (by rw [hg.wk];exact hg.k0) bw p q s w h2 hA (Ne.symm hp.2.1) (Ne.symm hq.2.1)).mono ?_;rintro e w5 ⟨rfl,k1,k3,k4⟩
   have o5:q9p w5 b g bw none:=Ob.kept h1 k4 (by simp;exact ⟨h4,Ne.symm hp.1,Ne.symm hq.1⟩)
   have D5:Fr (p :: q :: b :: bw :: []) w w5:=k4.mono (by intro k hk;simp at hk ⊢;rcases hk with rfl | rfl | rfl <;> simp)
   have hpb:=hp.1
   have hqb:=hq.1
   have hpw:=hp.2.1
   have hqw:=hq.2.1
   clear c0 c1 c2 c3 c4 c5 c6 c7 z h1 h2 k4
   generalize hyw:(g.w.step s).1=yw at *
   generalize hys:(g.w.step s).2=ys at *
   by_cases e0:yw.line=0
   ·have g0:decide (yw.line=0)=true:=by simpa using e0
    have hn:y=({ g with w:=yw,l:=some (Lok.new g.c yw.at_ g.key g.key 1073741824) },ys):=by rw [<- HY.out];unfold Gt.step;rw [qd (by rw [HO.out];simp),HL.out];simp only;rw [hyw,hys,qf e0]
    subst hn
    rw [g0]
    have HE:=q9 (qc hyw (qc hys (qc e0 g0)))
    clear hyw hys e0 g0 hsn
    go_wp2_with fail
    refine qo (by kernel_rfl) ?_
    refine z6 [] w5 #[true,true,true,true,true,true,true,true,true,true,true,true,true,true,true,true,true,true,true,true,true,false,false,false] 21 3 rfl ?_
    refine lpq [true,true,true,true,true,true,true,true,true,true,true,true,true,true,true,true,true,true,true,true,false,false,false,false] 1 ((Fr.refl _ w5).drew) ?_
    apply qg
    refine ⟨fun wf Ff=>?_,?_⟩
    ·obtain ⟨c0,c1,c2,c3,c4,c5,c6,c7⟩:=Qx (Ob.up o5 Ff)
     have y9:=(xd (Ob.up k1 Ff)).2.2.2.2.2.2.2.2.2
     have j0:=qb c0
     have j1:=qb c1
     have j2:=qb c2
     have j3:=qb c3
     have j4:=qb c4
     have j5:=qb c5
     have j9:=qb y9
     clear c0 c1 c2 c3 c4 c5 c6 c7 y9
     simp only [sel]
     repeat (go_big_quiet_step (fail))
     exact wpQuiet_nil rfl
    refine loq 20 (fun w7 F7=>?_)
    have E:=((Fr.refl [] w5).drew.trans F7)
    clear F7
    go_wp2_with fail
    refine (Jw g.c yw.at_ g.key g.key 1073741824 w7).mono ?_;rintro e w8 ⟨bl,rfl,hbl,m1,F8⟩
    have hE:=E.size
    replace E:=E.trans F8
    clear F8
    go_wp2_with fail
    refine ql ⟨E,?_⟩
    refine qx (k:=21) rfl (by kernel_rfl) (fun w10 F10=>?_)
    replace E:=E.trans F10
    replace m1:xu w10 bl (Lok.new g.c yw.at_ g.key g.key 1073741824):=Ob.up m1 F10
    clear F10
    have o10:q9p w10 b g bw none:=Ob.up o5 E
    have k10:Qy w10 bw yw:=Ob.up k1 E
    have A10:=k3.kept E (by simp) (by simp)
    have D10:=D5.then E
    have hbb:bl≠b/\bl≠bw:=by have:=Ob.lt o5;have:=Ob.lt k1;constructor <;> omega
    have hbw:w.heap.size<=bl:=by have:=D5.size;omega
    clear o5 k1 k3 D5
    obtain ⟨c0,c1,c2,c3,c4,c5,c6,c7⟩:=Qx o10
    have z:=o10.frozen
    go_wp2_with fail
    have SC:Fr [b] w10 (w10.setCell ⟨b,6,none⟩ (.pointer (some ⟨bl,0,none⟩))):=Fr.setCell _ (by simp)
    have o11:q9p _ b { g with w:=yw,l:=some (Lok.new g.c yw.at_ g.key g.key 1073741824) } bw (some bl):=Ob.set o10 (i:=6) (.pointer (some ⟨bl,0,none⟩))
    have k11:Qy _ bw yw:=Ob.other k10 (Ne.symm h4) (i:=6) (.pointer (some ⟨bl,0,none⟩))
    have m11:xu _ bl (Lok.new g.c yw.at_ g.key g.key 1073741824):=Ob.other m1 hbb.1 (i:=6) (.pointer (some ⟨bl,0,none⟩))
    have A11:=Rar.set A10 (Ne.symm hpb) (Ne.symm hqb) (i:=6) (.pointer (some ⟨bl,0,none⟩))
    have D11:=D10.setCell' (b:=b) (i:=6) (.pointer (some ⟨bl,0,none⟩)) (by simp)
    clear c0 c1 c2 c3 c4 c5 c6 c7 z o10 k10 m1 A10 D10 E SC
    generalize (w10.setCell ⟨b,6,none⟩ (.pointer (some ⟨bl,0,none⟩)))=w11 at *
    have o12:=o11
    have D12:=D11
    obtain ⟨c0,c1,c2,c3,c4,c5,c6,c7⟩:=Qx o12
    have L12:=Rh.new m11
    have hb6:b∉[bl]:=by simp;exact Ne.symm hbb.1
    have hw6:bw∉[bl]:=by simp;exact Ne.symm hbb.2
    have HK12:=q9 k11
    have HA12:=q9 A11
    clear o11 D11 m11 k11 A11
    rw [HO.out] at c7
    go_wp2_with fail
    go_ret
    refine Stp.of (by rw [HO.out];rfl) (B':=b :: bw :: [bl]) ⟨bw,some bl,[bl],o12,HK12.out,⟨bl,rfl,L12⟩,h4,hb6,hw6,rfl⟩ (fun k hk=>?_) HA12.out D12
    simp only [List.mem_cons,List.not_mem_nil,or_false] at hk
    rcases hk with rfl | rfl | rfl
    ·exact .inl (by simp)
    ·exact .inl (by simp)
    ·exact .inr hbw
   ·have g0:decide (yw.line=0)=false:=by simpa using e0
    have hn:y=({ g with w:=yw },ys):=by rw [<- HY.out];unfold Gt.step;rw [qd (by rw [HO.out];simp),HL.out];simp only;rw [hyw,hys,qd e0]
    subst hn
    rw [g0]
    obtain ⟨c0,c1,c2,c3,c4,c5,c6,c7⟩:=Qx o5
    rw [HO.out] at c7
    have HE:=q9 (qc hyw (qc hys (qc e0 g0)))
    clear hyw hys e0 g0 hsn
    go_wp2_with fail
    go_ret
    refine Stp.of (by rw [HO.out];rfl) (B':=b :: bw :: []) ⟨bw,none,[],o5,k1,by rw [HL.out];exact ⟨rfl,rfl⟩,h4,h5,h6,rfl⟩ (fun k hk=>.inl hk) k3 D5
end Go.Proofs.YtppajakfaomkaaaGreatDoor.Mx
namespace Go.Proofs.YtppajakfaomkaaaGreatDoor.Mx
open Go.RowKit Ar Ref Mp
theorem q2e (c:Cf) (key:Int) (w:World):Calls Tryz.prog 125 #[c.val,.int .i64 key] w (Mk w (fun w' B b=>q76 w' B b (Gt.new c key))):=by
 unfold Cf.val
 have F0:=(Fr.refl [] w).alloc (.cells #[.int .i64 c.t,.int .i64 c.c,.int .i64 c.wd,.int .i64 c.v] 23)
 obtain ⟨c0,c1,c2,c3⟩:=Pl.yf (Go.heap_alloc_new w (.cells #[.int .i64 c.t,.int .i64 c.c,.int .i64 c.wd,.int .i64 c.v] 23))
 go_enter Tryz.func125,Tryz.ntmps125
 go_wp2_with fail
 generalize hw1:World.alloc w _=w1 at *
 have k0:=qb c0
 have k1:=qb c1
 have k2:=qb c2
 have k3:=qb c3
 clear c0 c1 c2 c3
 refine qy (by kernel_rfl) [] (fun w2 F2=>?_)
 refine epq [true,true,true,true,false,false,false,false] 4 (F2.mono) ?_
 apply qg
 refine ⟨fun wf Ff=>?_,?_⟩
 ·have k0:=qb (Ff.cell (k0 ⟨w1,Fr.refl _ _⟩) (by simp))
  have k1:=qb (Ff.cell (k1 ⟨w1,Fr.refl _ _⟩) (by simp))
  have k2:=qb (Ff.cell (k2 ⟨w1,Fr.refl _ _⟩) (by simp))
  have k3:=qb (Ff.cell (k3 ⟨w1,Fr.refl _ _⟩) (by simp))
  simp only [sel]
  repeat (go_big_quiet_step (fail))
  exact wpQuiet_nil rfl
 clear k0 k1 k2 k3 hw1
 refine eoq 4 (fun w3 F3=>?_)
 have E:=F2.trans F3
 clear F2 F3
 go_wp2_with fail
 refine (Zo c key w3).mono ?_;rintro e w4 ⟨bw,rfl,hbw,k,F4⟩
 have hE:=E.size
 replace E:=E.trans F4
 clear F4
 go_wp2_with fail
 refine ql ⟨E,?_⟩
 refine eoq 5 (fun w5 F5=>?_)
 replace E:=E.trans F5
 replace k:=Ob.up k F5
 clear F5
 go_wp2_with fail
 refine ql ⟨E,?_⟩
 refine eoq 6 (fun w5 F5=>?_)
 replace E:=E.trans F5
 replace k:=Ob.up k F5
 clear F5
 have hk:=Ob.lt k
 have og:q9p _ w5.heap.size (Gt.new c key) bw none:=Ob.new w5 204 ((Gt.new c key).cells bw none)
 unfold Gt.cells Gt.new xw at og
 simp only at og
 have FA:=(Fr.refl [] w5).alloc (.cells #[.int .i64 key,.int .i64 c.t,.int .i64 c.c,.int .i64 c.wd,.int .i64 c.v,.pointer (some ⟨bw,0,none⟩),.pointer none,.bool false] 204)
 have hE5:=E.size
 go_wp2_with fail
 refine ql ⟨E.trans FA,?_⟩
 refine eoq 7 (fun w6 F6=>?_)
 have E2:=(E.trans FA).trans F6
 have k2:=Ob.up k (FA.trans F6)
 have og2:=Ob.up og F6
 clear k og E FA F6
 generalize w5.heap.size=b at *
 go_wp2_with fail
 refine ql ⟨E2,?_⟩
 refine zr (by kernel_rfl) (fun w7 F7=>?_)
 have E3:=q9 (F0.trans (E2.trans F7))
 have HK:=q9 (qc (Ob.up k2 F7) (Ob.up og2 F7))
 have hF0:=F0.size
 clear k2 og2 E2 F7 F0
 go_wp2_with fail
 go_ret
 refine ⟨b,[b,bw],rfl,⟨bw,none,[],HK.out.2,HK.out.1,⟨rfl,rfl⟩,by omega,by simp,by simp,rfl⟩,fun k hk=>?_,E3.out⟩
 simp at hk
 rcases hk with rfl | rfl <;> omega
theorem Ky {w:World} {b:Nat} {T:TypeId} {x0 x1 x2 x3 x4 x5:Value} (h:Ob w b T #[x0,x1,x2,x3,x4,x5]) (y0 y1 y2 y3 y4 y5:Value) :
  Ob ((((((w.setCell ⟨b,0,none⟩ y0).setCell ⟨b,1,none⟩ y1).setCell ⟨b,2,none⟩ y2).setCell ⟨b,3,none⟩ y3).setCell ⟨b,4,none⟩ y4).setCell ⟨b,5,none⟩ y5) b T #[y0,y1,y2,y3,y4,y5]:=by
 have:=((((((h.set (i:=0) y0).set (i:=1) y1).set (i:=2) y2).set (i:=3) y3).set (i:=4) y4).set (i:=5) y5)
 rwa [show ((((((#[x0,x1,x2,x3,x4,x5]:Array Value).setIfInBounds 0 y0).setIfInBounds 1 y1).setIfInBounds 2 y2).setIfInBounds 3 y3).setIfInBounds 4 y4).setIfInBounds 5 y5 = #[y0,y1,y2,y3,y4,y5] from rfl] at this
theorem Wp {S:List Nat} {a w:World} {b:Nat} (h:Fr S a w) (hb:b∈S) (y0 y1 y2 y3 y4 y5:Value) :
  Fr S a ((((((w.setCell ⟨b,0,none⟩ y0).setCell ⟨b,1,none⟩ y1).setCell ⟨b,2,none⟩ y2).setCell ⟨b,3,none⟩ y3).setCell ⟨b,4,none⟩ y4).setCell ⟨b,5,none⟩ y5) :=
 (((((h.setCell' y0 hb).setCell' y1 hb).setCell' y2 hb).setCell' y3 hb).setCell' y4 hb).setCell' y5 hb
theorem Q9 {w:World} {b:Nat} {T:TypeId} {x0 x1 x2 x3 x4 x5:Value} (h:Ob w b T #[x0,x1,x2,x3,x4,x5]):w.cell? ⟨b,0,none⟩=some x0/\w.cell? ⟨b,1,none⟩=some x1/\w.cell? ⟨b,2,none⟩=some x2/\w.cell? ⟨b,3,none⟩=some x3/\w.cell? ⟨b,4,none⟩=some x4/\w.cell? ⟨b,5,none⟩=some x5 :=
 ⟨h.cell rfl,h.cell rfl,h.cell rfl,h.cell rfl,h.cell rfl,h.cell rfl⟩
def FdAt (l:List It) (key:Int) (w0:World) (u:Value) (wr:World):Prop:=∃ k,k<=l.length/\u = .int .i64 (k:Nat)/\Fr [] w0 wr/\∀ j z,j<k->l[j]? = some z->z.k≠key
theorem q02 {l:List It} {key:Int} {k:Nat} {y:It} (hy:l[k]? = some y) (hk:y.k=key) (h:∀ j z,j<k->l[j]? = some z->z.k≠key):Xv l key=⟨0,decide (0<=q47 y.d),max 0 (q47 y.d),q9m y.d,0,[]⟩:=by
 have:l.find? (fun y=>y.k == key)=some y:=by
  rw [List.find?_eq_some_iff_getElem]
  have hlt:=(List.getElem?_eq_some_iff.1 hy).1
  refine ⟨by simpa using hk,k,hlt,(List.getElem?_eq_some_iff.1 hy).2,fun j hj=>?_⟩
  have:=h j l[j] hj (List.getElem?_eq_getElem (by omega))
  simpa using this
 unfold Xv;rw [this]
theorem q17 {l:List It} {key:Int} (h:∀ (j:Nat) (z:It),l[j]? = some z->z.k≠key):Xv l key=⟨0,false,0,-1,0,[]⟩:=by
 have:l.find? (fun y=>y.k == key)=none:=by
  rw [List.find?_eq_none]
  intro z hz
  obtain ⟨j,hj⟩:=List.mem_iff_getElem?.1 hz
  simpa using h j z hj
 unfold Xv;rw [this]
def An0:Array Value:=#[.int .i64 0,.bool false,.int .i64 0,.int .i64 0,.int .i64 0,.slice none 0 0]
theorem q6s (l:List It) (key:Int) (v:Value) (w:World) (hl:l.length<=1000) (hs:Sq fT w v l) :
  Calls Tryz.prog 167 #[v,.int .i64 key] w fun e w'=>e = .returned (Yj (Xv l key) (.slice none 0 0))/\Fr [] w w':=by
 obtain ⟨a,cap,rfl,hcap,hmax,-⟩:=id hs
 have F0:=(Fr.refl [] w).alloc (.cells An0 46)
 have oa:=Ob.new w 46 An0
 unfold An0 at F0 oa
 go_enter Tryz.func167,Tryz.ntmps167
 go_wp2_with fail
 generalize hw1:World.alloc w _=w1 at *
 clear hw1
 have hs1:=q9 (hs.up F0)
 clear hs
 have hw0:=oa.lt
 generalize hb:w.heap.size=b at *
 go_loopw [5] (fun u wr=>FdAt l key w1 u wr) (fun u _=>l.length - (intOf u).toNat)
 case atStart=>exact ⟨0,Nat.zero_le _,rfl,Fr.refl _ _,by omega⟩
 case round =>
  obtain ⟨k,hk,rfl,F,h1⟩:=hrel
  have oa2:=oa.up F
  have z:=oa2.frozen
  have FF:=q9 (F0.trans F)
  have c0:=oa2.cell (i:=0) rfl
  have c1:=oa2.cell (i:=1) rfl
  have c2:=oa2.cell (i:=2) rfl
  have c3:=oa2.cell (i:=3) rfl
  have c4:=oa2.cell (i:=4) rfl
  have c5:=oa2.cell (i:=5) rfl
  by_cases hlt:k<l.length
  ·obtain ⟨y,hy⟩:∃ y,l[k]? = some y:=⟨l[k],List.getElem?_eq_getElem hlt⟩
   obtain ⟨g,off,rfl,d0,d1,d2⟩:=xk (hs1.out.up F) hy
   by_cases hyk:y.k=key
   ·have HR:=q9 (q02 hy hyk h1)
    have g1:(y.k == key)=true:=by simpa using hyk
    clear hyk hy h1
    go_wp2_with fail
    refine (Rp _ _).mono ?_;rintro e _ ⟨rfl,rfl⟩
    go_wp2_with fail
    refine (q5e _ _).mono ?_;rintro e _ ⟨rfl,rfl⟩
    generalize hvv:q47 y.d=vv at *
    generalize hwh:q9m y.d=wh at *
    have HVW:=q9 (qc hvv hwh)
    clear hvv hwh
    by_cases p1:0<vv
    ·have g2:decide (vv≥0)=true:=by simp;omega
     have HP:=q9 p1
     go_wp2_with fail
     have o8:=Ky oa2 (.int .i64 0) (.bool true) (.int .i64 vv) (.int .i64 wh) (.int .i64 0) (.slice none 0 0)
     have F8:=Wp (b:=b) (Fr.refl [b] wr) (List.mem_singleton.2 rfl) (.int .i64 0) (.bool true) (.int .i64 vv) (.int .i64 wh) (.int .i64 0) (.slice none 0 0)
     obtain ⟨q0,q1,q2,q3,q4,q5⟩:=Q9 o8
     refine bodyPost_ret (v:=Yj ⟨0,true,vv,wh,0,[]⟩ (.slice none 0 0)) (by simp [results,Tryz.results167,go_sem,q0,q1,q2,q3,q4,q5,Yj]) rfl ⟨by rw [HR.out];rw [show decide (0<=vv)=true by have:=HP.out;simp;omega,show max 0 vv=vv by have:=HP.out;omega],FF.out.own F8 (by simp;omega)⟩
    ·by_cases p2:vv=0
     ·have HP:=q9 p2
      subst p2
      go_wp2_with fail
      have o8:=Ky oa2 (.int .i64 0) (.bool true) (.int .i64 0) (.int .i64 wh) (.int .i64 0) (.slice none 0 0)
      have F8:=Wp (b:=b) (Fr.refl [b] wr) (List.mem_singleton.2 rfl) (.int .i64 0) (.bool true) (.int .i64 0) (.int .i64 wh) (.int .i64 0) (.slice none 0 0)
      obtain ⟨q0,q1,q2,q3,q4,q5⟩:=Q9 o8
      refine bodyPost_ret (v:=Yj ⟨0,true,0,wh,0,[]⟩ (.slice none 0 0)) (by simp [results,Tryz.results167,go_sem,q0,q1,q2,q3,q4,q5,Yj]) rfl ⟨by rw [HR.out];rfl,FF.out.own F8 (by simp;omega)⟩
     ·have g2:decide (vv≥0)=false:=by simp;omega
      have HP:=q9 (qc p1 p2)
      go_wp2_with fail
      have o8:=Ky oa2 (.int .i64 0) (.bool false) (.int .i64 0) (.int .i64 wh) (.int .i64 0) (.slice none 0 0)
      have F8:=Wp (b:=b) (Fr.refl [b] wr) (List.mem_singleton.2 rfl) (.int .i64 0) (.bool false) (.int .i64 0) (.int .i64 wh) (.int .i64 0) (.slice none 0 0)
      obtain ⟨q0,q1,q2,q3,q4,q5⟩:=Q9 o8
      refine bodyPost_ret (v:=Yj ⟨0,false,0,wh,0,[]⟩ (.slice none 0 0)) (by simp [results,Tryz.results167,go_sem,q0,q1,q2,q3,q4,q5,Yj]) rfl ⟨by rw [HR.out];rw [show decide (0<=vv)=false by have:=HP.out;simp;omega,show max 0 vv=0 by have:=HP.out;omega],FF.out.own F8 (by simp;omega)⟩
   ·have g1:(y.k == key)=false:=by simpa using hyk
    have HY:=q9 (qc hy hyk)
    clear hyk hy
    go_wp2_with fail
    go_roundw
    case rel=>exact ⟨k+1,by omega,by go_num,F,fun j z hj hz=>by
     by_cases e:j=k
     ·subst e;rw [HY.out.1] at hz;cases hz;exact HY.out.2
     ·exact h1 j z (by omega) hz⟩
    case measure=>simp [intOf];omega
  ·obtain rfl:k=l.length:=by omega
   have HR:=q9 (q17 (fun j z hz=>h1 j z (List.getElem?_eq_some_iff.1 hz).1 hz))
   clear h1
   go_wp2_with fail
   have o8:=Ky oa2 (.int .i64 0) (.bool false) (.int .i64 0) (.int .i64 (-1)) (.int .i64 0) (.slice none 0 0)
   have F8:=Wp (b:=b) (Fr.refl [b] wr) (List.mem_singleton.2 rfl) (.int .i64 0) (.bool false) (.int .i64 0) (.int .i64 (-1)) (.int .i64 0) (.slice none 0 0)
   obtain ⟨q0,q1,q2,q3,q4,q5⟩:=Q9 o8
   refine bodyPost_ret (v:=Yj ⟨0,false,0,-1,0,[]⟩ (.slice none 0 0)) (by simp [results,Tryz.results167,go_sem,q0,q1,q2,q3,q4,q5,Yj]) rfl ⟨by rw [HR.out],FF.out.own F8 (by simp;omega)⟩
theorem Y8 (g:Gt) (hg:q78 g) (hn:g.over=true->g.l≠none) (B:List Nat) (b:Nat) (w:World) (h:q76 w B b g) :
  Calls Tryz.prog 129 #[.pointer (some ⟨b,0,none⟩)] w fun e w'=>e = .returned (Yj g.answer (.slice none 0 0))/\Fr [] w w':=by
 obtain ⟨bw,lp,B2,h1,h2,h3,h4,h5,h6,rfl⟩:=h
 have F0:=(Fr.refl [] w).alloc (.cells An0 46)
 have oa:=Ob.new w 46 An0
 have h1':=h1
 replace h1:=Ob.up h1 F0
 have hlt:=Ob.lt h1'
 unfold An0 at F0 oa h1
 obtain ⟨c0,c1,c2,c3,c4,c5,c6,c7⟩:=Qx h1
 cases ho:g.over with
 | false =>
  rw [ho] at c7
  have HO:=q9 ho
  clear ho hn
  have q0:=Q9 oa
  obtain ⟨q0,q1,q2,q3,q4,q5⟩:=q0
  have z:=oa.frozen
  go_enter Tryz.func129,Tryz.ntmps129
  go_wp2_with fail
  generalize hw1:World.alloc w _=w1 at *
  generalize w.heap.size=br at *
  obtain ⟨q0,q1,q2,q3,q4,q5⟩:=Q9 oa
  refine bodyPost_ret (v:=Yj Vp (.slice none 0 0)) (by simp [results,Tryz.results129,go_sem,q0,q1,q2,q3,q4,q5,Yj,Vp]) rfl ⟨by unfold Gt.answer;rw [HO.out];rfl,F0⟩
 | true =>
  rw [ho] at c7
  have HO:=q9 ho
  cases hl:g.l with
  | none=>exact absurd hl (hn ho)
  | some x =>
   rw [hl] at h3
   obtain ⟨bl,rfl,lv,k1,k2,k3,rfl,k5⟩:=h3
   unfold xw at c6
   simp only at c6
   have hxok:=hg.l x hl
   have hlen:x.l.length<=1000:=by have:=hxok.len;have:=hxok.i1;omega
   have HA:=q9 (show g.answer=Xv x.l g.key by unfold Gt.answer;rw [qf ho,hl])
   clear ho hl hn
   replace k1:=Ob.up k1 F0
   replace k2:=Sq.up k2 F0
   go_enter Tryz.func129,Tryz.ntmps129
   go_wp2_with fail
   generalize hw1:World.alloc w _=w1 at *
   have hbr:bl≠w.heap.size/\b≠w.heap.size:=by have:=k5 bl (by simp);omega
   have hlv:w.heap.size∉lv.ownBlock.toList:=by intro hi;have:=k5 _ (List.mem_cons_of_mem _ hi);omega
   generalize hbr0:w.heap.size=br at *
   clear c0 c1 c2 c3 c4 c5 c6 c7
   refine qy (by kernel_rfl) [br] (fun w2 F2=>?_)
   refine epq [true,true,true,true,true,true,true,true,true,true,true,true,false] 1 (F2.mono) ?_
   apply qg
   refine ⟨fun wf Ff=>?_,?_⟩
   ·have hf:q9p wf b g bw (some bl):=Ob.kept h1 Ff (by simp;exact hbr.2)
    obtain ⟨c0,c1,c2,c3,c4,c5,c6,c7⟩:=Qx hf
    unfold xw at c6
    simp only at c6
    have hk:xu wf bl (x.as lv):=Ob.kept k1 Ff (by simp;exact hbr.1)
    have y14:=(qw hk).2.2.2.2.2.2.2.2.2.2.2.2.2.2
    have hsq:=Sq.kept k2 Ff (by intro g hg hi;simp at hi;subst hi;exact hlv hg)
    have HF:=q9 (show ∀ s:In wf,Calls Tryz.prog 167 #[lv,.int .i64 g.key] s.at_ fun e w'=>e = .returned (Yj (Xv x.l g.key) (.slice none 0 0))/\Fr [] s.at_ w' from fun s=>q6s x.l g.key lv _ hlen (hsq.up s.fr))
    have j0:=qb c0
    have j6:=qb c6
    have j14:=qb y14
    rw [show (x.as lv).lv=lv from rfl] at j14
    clear c0 c1 c2 c3 c4 c5 c6 c7 y14
    simp only [sel]
    repeat (go_big_quiet_step ((go_at_call 167;exact Calls.in_ (HF.out _))))
    exact wpQuiet_nil rfl
   refine eoq 12 (fun w3 F3=>?_)
   have E:=F2.trans F3
   replace oa:=oa.up E
   clear F2 F3
   obtain ⟨q0,q1,q2,q3,q4,q5⟩:=Q9 oa
   have z:=oa.frozen
   generalize Xv x.l g.key=an at *
   unfold Yj
   go_wp2_with fail
   have o8:=Ky oa (.int .i64 an.code) (.bool an.found) (.int .i64 an.val) (.int .i64 an.writer) (.int .i64 an.version) (.slice none 0 0)
   have F8:=Wp (b:=br) (Fr.refl [br] w3) (List.mem_singleton.2 rfl) (.int .i64 an.code) (.bool an.found) (.int .i64 an.val) (.int .i64 an.writer) (.int .i64 an.version) (.slice none 0 0)
   clear q0 q1 q2 q3 q4 q5 z oa
   refine ql ⟨(E.mono).trans F8,?_⟩
   refine zr (by kernel_rfl) (fun w4 F4=>?_)
   have o9:=o8.up F4
   have G:=F0.trans E
   have F9:=q9 ((G.own F8 (by simp;omega)).trans F4)
   clear o8 F8 F4
   go_wp2_with fail
   obtain ⟨q0,q1,q2,q3,q4,q5⟩:=Q9 o9
   refine bodyPost_ret (v:=Yj an (.slice none 0 0)) (by simp [results,Tryz.results129,go_sem,q0,q1,q2,q3,q4,q5,Yj]) rfl ⟨by rw [HA.out],F9.out⟩
theorem Vf {A Y Z Y':List Nat} {n:Nat} (h:(A++(Y++Z)).Nodup) (hlt:∀ k,k∈A++(Y++Z)->k<n) (hY:Y'.Nodup) (hs:∀ k,k∈Y'->k∈Y\/n<=k):(A++(Y'++Z)).Nodup:=by
 rw [List.nodup_append] at h ⊢
 obtain ⟨h1,h2,h3⟩:=h
 rw [List.nodup_append] at h2 ⊢
 obtain ⟨h4,h5,h6⟩:=h2
 refine ⟨h1,⟨hY,h5,fun a ha b hb e=>?_⟩,fun a ha b hb e=>?_⟩
 ·subst e
  rcases hs a ha with h | h
  ·exact h6 a h a hb rfl
  ·have:=hlt a (by simp [hb]);omega
 ·subst e
  rcases List.mem_append.1 hb with h | h
  ·rcases hs a h with h' | h'
   ·exact h3 a ha a (by simp [h']) rfl
   ·have:=hlt a (by simp [ha]);omega
  ·exact h3 a ha a (by simp [h]) rfl
theorem q1x {A Y Z Y':List Nat} {n:Nat} (hs:∀ k,k∈Y'->k∈Y\/n<=k):∀ k,k∈A++(Y'++Z)->k∈A++(Y++Z)\/n<=k:=by
 intro k hk
 simp only [List.mem_append] at hk ⊢
 rcases hk with h | h | h
 ·exact .inl (.inl h)
 ·exact (hs k h).imp (fun h=>.inr (.inl h)) id
 ·exact .inl (.inr (.inr h))
theorem q9u (v:Value):v.ownBlock.toList.Nodup:=by cases v.ownBlock <;> simp
theorem Rh.nd {w:World} {B:List Nat} {b:Nat} {x:Lok} (h:Rh w B b x):B.Nodup:=by
 obtain ⟨lv,h1,h2,h3,rfl,h5⟩:=h
 exact List.nodup_cons.2 ⟨h3,q9u lv⟩
def OpW (w:World) (B:List Nat) (o:Option Wk) (wp:Option Nat):Prop:=match o with | none=>wp=none/\B=[] | some y=>∃ bw,wp=some bw/\Qy w bw y/\B=[bw]
theorem OpW.kept {S:List Nat} {w w':World} {B:List Nat} {o:Option Wk} {wp:Option Nat} (h:OpW w B o wp) (f:Fr S w w') (hS:∀ k,k∈B->k∉S):OpW w' B o wp:=by
 cases o with
 | none=>exact h
 | some x=>obtain ⟨bl,h1,h2,rfl⟩:=h;exact ⟨bl,h1,Ob.kept h2 f (hS _ (by simp)),rfl⟩
theorem OpW.lt {w:World} {B:List Nat} {o:Option Wk} {wp:Option Nat} (h:OpW w B o wp):∀ k,k∈B->k<w.heap.size:=by
 cases o with
 | none=>rw [h.2];simp
 | some x=>obtain ⟨bl,h1,h2,rfl⟩:=h;intro k hk;simp at hk;subst hk;exact Ob.lt h2
def Sn.cells (x:Sn) (bk:Nat) (wp lp:Option Nat) (iv:Value):Array Value:=#[.int .i64 x.c.t,.int .i64 x.c.c,.int .i64 x.c.wd,.int .i64 x.c.v,.int .i64 x.t,.int .i64 x.seq,.int .i64 x.lo,.int .i64 x.hi,.pointer (some ⟨bk,0,none⟩),xw wp,xw lp,.int .i64 x.line,.int .i64 x.at_,.int .i64 x.n,iv]
def Ur (w:World) (b:Nat) (x:Sn) (bk:Nat) (wp lp:Option Nat) (iv:Value):Prop:=Ob w b 208 (x.cells bk wp lp iv)
theorem zo {w:World} {b bk:Nat} {wp lp:Option Nat} {iv:Value} {x:Sn} (h:Ur w b x bk wp lp iv):w.cell? ⟨b,0,none⟩=some (.int .i64 x.c.t)/\w.cell? ⟨b,1,none⟩=some (.int .i64 x.c.c)/\w.cell? ⟨b,2,none⟩=some (.int .i64 x.c.wd)/\w.cell? ⟨b,3,none⟩=some (.int .i64 x.c.v)/\w.cell? ⟨b,4,none⟩=some (.int .i64 x.t)/\w.cell? ⟨b,5,none⟩=some (.int .i64 x.seq)/\w.cell? ⟨b,6,none⟩=some (.int .i64 x.lo)/\w.cell? ⟨b,7,none⟩=some (.int .i64 x.hi)/\w.cell? ⟨b,8,none⟩=some (.pointer (some ⟨bk,0,none⟩))/\w.cell? ⟨b,9,none⟩=some (xw wp)/\w.cell? ⟨b,10,none⟩=some (xw lp)/\w.cell? ⟨b,11,none⟩=some (.int .i64 x.line)/\w.cell? ⟨b,12,none⟩=some (.int .i64 x.at_)/\w.cell? ⟨b,13,none⟩=some (.int .i64 x.n)/\w.cell? ⟨b,14,none⟩=some (iv) :=
 ⟨h.cell rfl,h.cell rfl,h.cell rfl,h.cell rfl,h.cell rfl,h.cell rfl,h.cell rfl,h.cell rfl,h.cell rfl,h.cell rfl,h.cell rfl,h.cell rfl,h.cell rfl,h.cell rfl,h.cell rfl⟩
def Kc (w:World) (B:List Nat) (b:Nat) (x:Sn):Prop:=∃ bk wp lp iv Bw Bl,Ur w b x bk wp lp iv/\Yr w bk x.k/\OpW w Bw x.w wp/\OpL w Bl x.l lp/\Sq fT w iv x.items/\(∀ g,g∈iv.ownBlock.toList->g<w.heap.size)/\B=b :: bk :: (Bw++(Bl++iv.ownBlock.toList))/\B.Nodup
theorem Kc.lt {w:World} {B:List Nat} {b:Nat} {x:Sn} (h:Kc w B b x):∀ k,k∈B->k<w.heap.size:=by
 obtain ⟨bk,wp,lp,iv,Bw,Bl,h1,h2,h3,h4,h5,h6,rfl,h8⟩:=h
 intro k hk
 simp only [List.mem_cons,List.mem_append] at hk
 rcases hk with rfl | rfl | hk | hk | hk
 ·exact Ob.lt h1
 ·exact Ob.lt h2
 ·exact h3.lt k hk
 ·exact h4.lt k hk
 ·exact h6 k hk
theorem Kc.kept {S:List Nat} {w w':World} {B:List Nat} {b:Nat} {x:Sn} (h:Kc w B b x) (f:Fr S w w') (hS:∀ k,k∈B->k∉S):Kc w' B b x:=by
 obtain ⟨bk,wp,lp,iv,Bw,Bl,h1,h2,h3,h4,h5,h6,rfl,h8⟩:=h
 exact ⟨bk,wp,lp,iv,Bw,Bl,Ob.kept h1 f (hS _ (by simp)),Ob.kept h2 f (hS _ (by simp)),h3.kept f (fun k hk=>hS k (by simp [hk])),h4.kept f (fun k hk=>hS k (by simp [hk])),h5.kept f (fun k hk=>hS k (by simp only [List.mem_cons,List.mem_append];simp [hk])),fun g hg=>qj (h6 g hg) f.size,rfl,h8⟩
theorem q0o (c:Cf) (tt seq lo hi:Int) (w:World):Calls Tryz.prog 126 #[c.val,.int .i64 tt,.int .i64 seq,.int .i64 lo,.int .i64 hi] w (Mk w (fun w' B b=>Kc w' B b (Sn.new c tt seq lo hi))):=by
 unfold Cf.val
 have F0:=(Fr.refl [] w).alloc (.cells #[.int .i64 c.t,.int .i64 c.c,.int .i64 c.wd,.int .i64 c.v] 23)
 obtain ⟨c0,c1,c2,c3⟩:=Pl.yf (Go.heap_alloc_new w (.cells #[.int .i64 c.t,.int .i64 c.c,.int .i64 c.wd,.int .i64 c.v] 23))
 go_enter Tryz.func126,Tryz.ntmps126
 go_wp2_with fail
 generalize hw1:World.alloc w _=w1 at *
 refine qy (by kernel_rfl) [] (fun w2 F2=>?_)
 refine epq [true,true,true,true,true,true,true,true,false,false,false,false] 4 (F2.mono) ?_
 apply qg
 refine ⟨fun wf Ff=>?_,?_⟩
 ·have k0:=qb (Ff.cell c0 (by simp))
  have k1:=qb (Ff.cell c1 (by simp))
  have k2:=qb (Ff.cell c2 (by simp))
  have k3:=qb (Ff.cell c3 (by simp))
  simp only [sel]
  repeat (go_big_quiet_step (fail))
  exact wpQuiet_nil rfl
 clear c0 c1 c2 c3 hw1
 refine eoq 8 (fun w3 F3=>?_)
 have E:=F2.trans F3
 clear F2 F3
 go_wp2_with fail
 refine (Sb c tt seq w3).mono ?_;rintro e w4 ⟨bk,rfl,hbk,k,F4⟩
 have hE:=E.size
 replace E:=E.trans F4
 clear F4
 go_wp2_with fail
 refine ql ⟨E,?_⟩
 refine eoq 9 (fun w5 F5=>?_)
 replace E:=E.trans F5
 replace k:=Ob.up k F5
 clear F5
 go_wp2_with fail
 refine ql ⟨E,?_⟩
 refine eoq 10 (fun w5 F5=>?_)
 replace E:=E.trans F5
 replace k:=Ob.up k F5
 clear F5
 have hk:=Ob.lt k
 have og:Ur _ w5.heap.size (Sn.new c tt seq lo hi) bk none none (.slice none 0 0):=Ob.new w5 208 ((Sn.new c tt seq lo hi).cells bk none none (.slice none 0 0))
 unfold Sn.cells Sn.new xw at og
 simp only at og
 have FA:=(Fr.refl [] w5).alloc (.cells #[.int .i64 c.t,.int .i64 c.c,.int .i64 c.wd,.int .i64 c.v,.int .i64 tt,.int .i64 seq,.int .i64 lo,.int .i64 hi,.pointer (some ⟨bk,0,none⟩),.pointer none,.pointer none,.int .i64 10,.int .i64 0,.int .i64 0,.slice none 0 0] 208)
 have hE5:=E.size
 go_wp2_with fail
 refine ql ⟨E.trans FA,?_⟩
 refine eoq 11 (fun w6 F6=>?_)
 have E2:=(E.trans FA).trans F6
 have k2:=Ob.up k (FA.trans F6)
 have og2:=Ob.up og F6
 clear k og E FA F6
 generalize w5.heap.size=b at *
 go_wp2_with fail
 refine ql ⟨E2,?_⟩
 refine zr (by kernel_rfl) (fun w7 F7=>?_)
 have E3:=q9 (F0.trans (E2.trans F7))
 have HK:=q9 (qc (Ob.up k2 F7) (Ob.up og2 F7))
 have hF0:=F0.size
 clear k2 og2 E2 F7 F0
 go_wp2_with fail
 go_ret
 refine ⟨b,[b,bk],rfl,⟨bk,none,none,.slice none 0 0,[],[],HK.out.2,HK.out.1,⟨rfl,rfl⟩,⟨rfl,rfl⟩,Sq.nil _,by simp [Value.ownBlock],by simp [Value.ownBlock],by simp;omega⟩,fun k hk=>?_,E3.out⟩
 simp at hk
 rcases hk with rfl | rfl <;> omega
def qd1 (w:World) (b p q:Nat) (x:Sn) (bk:Nat) (wp:Option Nat) (iv:Value) (at_:Int) (e:Ending) (w':World):Prop:=∃ bl,e = .returned (.tuple #[])/\w.heap.size<=bl/\Ur w' b (x.chunk at_) bk wp (some bl) iv/\xu w' bl (Lok.new x.c at_ x.lo x.hi x.k.version)/\Fr [b] w w'
theorem Tj (x:Sn) (at_:Int) (b bk p q:Nat) (wp lp:Option Nat) (iv:Value) (w:World) (h:Ur w b x bk wp lp iv) (hk:Yr w bk x.k) :
  Calls Tryz.prog 169 #[.pointer (some ⟨b,0,none⟩),.int .i64 at_] w (qd1 w b p q x bk wp iv at_):=by
 go_enter Tryz.func169,Tryz.ntmps169
 refine qo (by kernel_rfl) ?_
 refine yh 1 rfl (by kernel_rfl) (by kernel_rfl) (by kernel_rfl) rfl (fun _ _ d _ _ h=>by cases d <;> exact h) ?_
 go_frame
 refine yh 2 rfl (by kernel_rfl) (by kernel_rfl) (by kernel_rfl) rfl (fun _ _ d _ _ h=>by cases d <;> exact h) ?_
 go_frame
 refine z6 [] w #[true,true,true,true,true,true,true,true,true,true,true,true,true,true,true,true,true,true,true,true,true,true,true,true,true,false,false,false,false,false,false,false,false,false] 23 9 rfl ?_
 refine yx [true,false,false,true,true,true,true,true,true,true,true,true,true,true,true,true,true,true,true,true,true,true,true,true,false,false,false,false,false,false,false,false,false,false] 1 (n:=35) (listed':=#[true,true,true,true,true,true,true,true,true,true,true,true,true,true,true,true,true,true,true,true,true,true,true,true,false,false,false,false,false,false,false,false,false,false]) rfl (by kernel_rfl) (by kernel_rfl) (by kernel_rfl) (by kernel_rfl) rfl (by kernel_rfl) (fun _ _ d _ _ h=>by cases d <;> exact h) ((Fr.refl _ w).drew) ?_
 apply qg
 refine ⟨fun wf Ff=>?_,?_⟩
 ·obtain ⟨c0,c1,c2,c3,c4,c5,c6,c7,c8,c9,c10,c11,c12,c13,c14⟩:=zo (Ob.up h Ff)
  have y5:=(yu (Ob.up hk Ff)).2.2.2.2.2.2.2.2.1
  have j0:=qb c0
  have j1:=qb c1
  have j2:=qb c2
  have j3:=qb c3
  have j6:=qb c6
  have j7:=qb c7
  have j8:=qb c8
  have j9:=qb y5
  clear c0 c1 c2 c3 c4 c5 c6 c7 c8 c9 c10 c11 c12 c13 c14 y5
  simp only [sel]
  repeat (go_big_quiet_step (fail))
  exact wpQuiet_nil rfl
 refine loq 24 (fun w7 F7=>?_)
 have E:=((Fr.refl [] w).drew.trans F7)
 clear F7
 go_wp2_with fail
 refine (Jw x.c at_ x.lo x.hi x.k.version w7).mono ?_;rintro e w8 ⟨bl,rfl,hbl,m1,F8⟩
 have hE:=E.size
 replace E:=E.trans F8
 clear F8
 go_wp2_with fail
 refine ql ⟨E,?_⟩
 refine qx (k:=25) rfl (by kernel_rfl) (fun w10 F10=>?_)
 replace E:=E.trans F10
 replace m1:xu w10 bl (Lok.new x.c at_ x.lo x.hi x.k.version):=Ob.up m1 F10
 clear F10
 have o10:Ur w10 b x bk wp lp iv:=Ob.up h E
 have hbb:bl≠b:=by have:=Ob.lt h;omega
 obtain ⟨c0,c1,c2,c3,c4,c5,c6,c7,c8,c9,c10,c11,c12,c13,c14⟩:=zo o10
 have z:=o10.frozen
 have o11:Ur _ b (x.chunk at_) bk wp (some bl) iv:=Ob.set (Ob.set (Ob.set o10 (i:=12) (.int .i64 at_)) (i:=11) (.int .i64 1)) (i:=10) (.pointer (some ⟨bl,0,none⟩))
 have m11:xu _ bl (Lok.new x.c at_ x.lo x.hi x.k.version):=Ob.other (Ob.other (Ob.other m1 hbb (i:=12) (.int .i64 at_)) hbb (i:=11) (.int .i64 1)) hbb (i:=10) (.pointer (some ⟨bl,0,none⟩))
 have E11:=(((E.mono (T:=[b]) (by simp)).setCell' (b:=b) (i:=12) (.int .i64 at_) (by simp)).setCell' (b:=b) (i:=11) (.int .i64 1) (by simp)).setCell' (b:=b) (i:=10) (.pointer (some ⟨bl,0,none⟩)) (by simp)
 go_wp2_with fail
 go_end0
 exact ⟨bl,rfl,by omega,o11,m11,E11⟩
theorem Rz {l:List It} {x:It} {k:Nat} (hk:k<=l.length) (h1:∀ i y,i<k->l[i]? = some y->y.k<x.k) (h2:∀ y,l[k]? = some y->¬ y.k<x.k) :
  Zx l x=l.take k++[x]++(if (l[k]?.any fun y=>decide (y.k=x.k))=true then l.drop (k+1) else l.drop k):=by
 induction l generalizing k with
 | nil=>simp at hk;subst hk;simp [Zx]
 | cons y r ih =>
  unfold Zx
  cases k with
  | zero =>
   rw [qd (h2 y rfl)]
   by_cases e:y.k=x.k <;> simp [e]
  | succ k =>
   rw [qf (h1 0 y (by omega) rfl),ih (k:=k) (by simpa using hk) (fun i z hi hz=>h1 (i+1) z (by omega) hz) (fun z hz=>h2 z (by simpa using hz))]
   simp
theorem q7g (l:List It) (x:It):(Zx l x).length<=l.length+1:=by
 induction l with
 | nil=>simp [Zx]
 | cons y r ih=>unfold Zx;(repeat' split) <;> simp <;> omega
theorem q0u (l:List It) (x:It):Zx l x≠[]:=by
 cases l with
 | nil=>simp [Zx]
 | cons y r=>unfold Zx;(repeat' split) <;> simp
theorem Tu (m l:List It):(m.foldl Zx l).length<=l.length+m.length:=by
 induction m generalizing l with
 | nil=>simp
 | cons y r ih=>rw [List.foldl_cons];have:=ih (Zx l y);have:=q7g l y;simp;omega
def TkAt (w:World) (b bk bl:Nat) (x:Sn) (wp:Option Nat) (iv:Value) (l:List It) (u:Value) (wr:World):Prop:=∃ i iv',i<=l.length/\u = .int .i64 (i:Nat) /\
 Ur wr b { x with items:=(l.take i).foldl Zx x.items } bk wp (some bl) iv'/\Sq fT wr iv' ((l.take i).foldl Zx x.items)/\(iv'=iv\/(l.take i).foldl Zx x.items≠[]/\∀ g,g∈iv'.ownBlock.toList->w.heap.size<=g)/\Fr [b] w wr
def TiAt (items:List It) (key:Int) (wr:World) (u:Value) (w':World):Prop:=∃ k,k<=items.length/\u = .int .i64 (k:Nat)/\Fr [] wr w'/\∀ i y,i<k->items[i]? = some y->y.k<key
def qcn (w:World) (b bk bl:Nat) (x:Sn) (wp:Option Nat) (iv:Value) (l:List It) (e:Ending) (w':World):Prop:=∃ iv',e = .returned (.tuple #[])/\Ur w' b { x with items:=l.foldl Zx x.items } bk wp (some bl) iv'/\Sq fT w' iv' (l.foldl Zx x.items)/\(iv'=iv\/l.foldl Zx x.items≠[]/\∀ g,g∈iv'.ownBlock.toList->w.heap.size<=g)/\Fr [b] w w'
theorem q5a (x:Sn) (y:Lok) (b bk bl:Nat) (wp:Option Nat) (iv lv:Value) (w:World) (h:Ur w b x bk wp (some bl) iv) (hy:xu w bl (y.as lv)) (hs:Sq fT w lv y.l) (hi:Sq fT w iv x.items)
  (h1:y.l.length<=100) (h2:x.items.length<=800000) (hb:b≠bl) (hb1:b∉lv.ownBlock.toList) (hb2:b∉iv.ownBlock.toList) :
  Calls Tryz.prog 170 #[.pointer (some ⟨b,0,none⟩)] w (qcn w b bk bl x wp iv y.l):=by
 have HY:=q9 (qc hy hs)
 have hlt:=Ob.lt h
 obtain ⟨al,cl,hlv,-,-,-⟩:=id hs
 subst hlv
 clear hy hs
 generalize hl:y.l=l at *
 go_enter Tryz.func170,Tryz.ntmps170
 go_wp2_with fail
 go_loopw [2] (TkAt w b bk bl x wp iv l) (fun u _=>l.length - (intOf u).toNat)
 case atStart=>exact ⟨0,iv,Nat.zero_le _,rfl,h,hi,.inl rfl,Fr.refl _ _⟩
 case round =>
  obtain ⟨i,iv',hil,rfl,h,hi,hn,F⟩:=hrel
  have hbi:b∉iv'.ownBlock.toList:=by
   rcases hn with rfl | ⟨-,hn⟩
   ·exact hb2
   ·intro hx;have:=hn b hx;omega
  have HB:=q9 (show xu wr bl (y.as (.slice al l.length cl))/\Sq fT wr (.slice al l.length cl) l from ⟨Ob.kept HY.out.1 F (by simpa using Ne.symm hb),HY.out.2.kept F (by intro g hg hx;simp at hx;subst hx;exact hb1 hg)⟩)
  have y14:=(qw HB.out.1).2.2.2.2.2.2.2.2.2.2.2.2.2.2
  rw [show (y.as (.slice al l.length cl)).lv = .slice al l.length cl from rfl] at y14
  obtain ⟨-,-,-,-,-,-,-,-,-,-,c10,-,-,-,c14⟩:=zo h
  unfold xw at c10
  simp only at c10
  by_cases hlt2:i<l.length
  ·obtain ⟨z,hz⟩:∃ z,l[i]? = some z:=⟨l[i],List.getElem?_eq_getElem hlt2⟩
   have hst:(l.take (i+1)).foldl Zx x.items=Zx ((l.take i).foldl Zx x.items) z:=by
    rw [List.take_add_one,hz,Option.toList_some,List.foldl_append];rfl
   have hlen:=Tu (l.take i) x.items
   rw [List.length_take] at hlen
   generalize (l.take i).foldl Zx x.items=its at *
   have hlen2:its.length<=900000:=by omega
   have HZ:=q9 (qc hz hst)
   clear hst hlen
   obtain ⟨gl,ol,rfl,z0,z1,z2⟩:=xk HB.out.2 hz
   clear hz
   obtain ⟨ai,ci,hiv,hci,hcm,-⟩:=id hi
   subst hiv
   have gi:decide ((i:Int)<(l.length:Int))=true:=by simp;omega
   have HH0:=q9 (qc h F)
   go_wp2_with fail
   go_loopw [3] (fun u w'=>TiAt its z.k wr u w') (fun u _=>its.length - (intOf u).toNat)
   case atStart=>exact ⟨0,Nat.zero_le _,rfl,Fr.refl _ _,by omega⟩
   case round =>
    obtain ⟨k,hk,rfl,F2,hk1⟩:=hrel
    have HI:=q9 hi
    by_cases hkl:k<its.length
    ·obtain ⟨yk,hyk⟩:∃ yk,its[k]? = some yk:=⟨its[k],List.getElem?_eq_getElem hkl⟩
     obtain ⟨gk,ok,rfl,d0,-,-⟩:=xk (HI.out.up F2) hyk
     have k10:=qb (F2.cell c10 (by simp))
     have k14:=qb (F2.cell c14 (by simp))
     have q14:=qb (F2.cell y14 (by simp))
     have qz:=qb (F2.cell z0 (by simp))
     have kd:=qb d0
     have HYK:=q9 hyk
     have gk1:decide ((k:Int)<(its.length:Int))=true:=by simp;omega
     by_cases q1:yk.k<z.k
     ·have g1:decide (yk.k<z.k)=true:=by simpa using q1
      have HQ:=q9 q1
      clear q1 hyk d0
      go_wp2_with fail
      refine wiq ?_
      repeat (go_big_quiet_step (fail))
      refine wpQuiet_nil ?_
      intro w5 F5
      have FF:=q9 (F2.trans F5)
      clear k10 k14 q14 qz kd F2 F5
      go_wp2_with fail
      go_roundw
      case rel=>exact ⟨k+1,by omega,by go_num,FF.out,fun i z hi hz=>by
       by_cases e:i=k
       ·subst e;rw [HYK.out] at hz;cases hz;exact HQ.out
       ·exact hk1 i z (by omega) hz⟩
      case measure=>simp [intOf];omega
     have g1:decide (yk.k<z.k)=false:=by simpa using q1
     have HQ:=q9 q1
     clear q1 hyk d0
     go_wp2_with fail
     refine wiq ?_
     repeat (go_big_quiet_step (fail))
     refine wpQuiet_nil ?_
     intro w5 F5
     have FF:=q9 (F2.trans F5)
     clear k10 k14 q14 qz kd F2 F5
     have ck:ci≠k:=by omega
     have c10:=FF.out.cell c10 (by simp)
     have c14:=FF.out.cell c14 (by simp)
     have y14:=FF.out.cell y14 (by simp)
     have z0:=FF.out.cell z0 (by simp)
     obtain ⟨g',o',hgo,d0,-,-⟩:=xk (HI.out.up FF.out) HYK.out
     simp only [Option.some.injEq,Addr.mk.injEq] at hgo
     obtain ⟨rfl,rfl,-⟩:=hgo
     have z1:=FF.out.cell z1 (by simp)
     have z2:=FF.out.cell z2 (by simp)
     go_wp2_with fail
     have k10:=qb c10
     have q14:=qb y14
     have qz:=qb z0
     have kd:=qb d0
     clear d0
     obtain ⟨mm,hmm⟩:∃ mm,its.length - k=mm+1:=⟨its.length - k - 1,by omega⟩
     have gl7:decide (((mm+1:Nat):Int)>0)=true:=by simp
     rw [hmm]
     by_cases q2:yk.k=z.k
     ·have g2:(yk.k == z.k)=true:=by simpa using q2
      have HQ2:=q9 q2
      clear q2
      refine wiq ?_
      repeat (go_big_quiet_step (fail))
      refine wpQuiet_nil ?_
      intro w6 F6
      have FG:=q9 (FF.out.trans F6)
      have HW5:=q9 (qc (Ob.up HH0.out.1 FG.out) (qc (HH0.out.2.then FG.out) FG.out))
      have HI5:=q9 (HI.out.up FG.out)
      replace c10:=F6.cell c10 (by simp)
      replace c14:=F6.cell c14 (by simp)
      replace y14:=F6.cell y14 (by simp)
      replace z0:=F6.cell z0 (by simp)
      replace z1:=F6.cell z1 (by simp)
      replace z2:=F6.cell z2 (by simp)
      clear F6 k10 q14 qz kd
      by_cases hce:ci - k=1
      focus
       obtain rfl:mm=0:=by omega
       go_wp2_with fail
       have HS2:=q9 (show Sq fT w6 (.slice (some ⟨gk,ok+k * 3,none⟩) 0 0) (its.drop (k+1)) by rw [List.drop_eq_nil_of_le (by omega)];exact Sq.empty _ _ (by simp [maxLen]))
      rotate_left
      focus
       go_wp2_with fail
       have HS2:=q9 (show Sq fT w6 (.slice (some ⟨gk,ok+k * 3+3,none⟩) mm (ci - k - 1)) (its.drop (k+1)) by have:=Sq.drop zh HI5.out (k+1) (by omega);rw [show its.length - (k+1)=mm by omega,show ci - (k+1)=ci - k - 1 by omega,show ok+(k+1) * 3=ok+k * 3+3 by omega] at this;exact this)
      rotate_left
      all_goals
       have HT:=q9 (show (its.take k).length+(its.drop (k+1)).length<=900000/\True/\Zx its z=its.take k++[z]++(its.drop (k+1)) from ⟨by rw [List.length_take];rw [List.length_drop];omega,trivial,by
        rw [Rz (by omega) hk1 (fun y hy=>by rw [HYK.out] at hy;cases hy;have:=HQ.out;omega),HYK.out]
        simp [HQ2.out]⟩)
       generalize its.drop (k+1)=T2 at HS2 HT
       have HS1:=q9 (Sq.take zh (HI5.out) k (by omega))
       generalize hT1:its.take k=T1 at HS1 HT
       clear hT1
       refine qo (by kernel_rfl) ?_
       refine z6 [] w6 #[true,true,true,true,true,true,true,true,true,true,true,true,true,true,true,true,true,true,true,true,true,true,false,false,false] 22 3 rfl ?_
       refine yx [true,true,true,true,true,true,true,false,true,true,true,true,true,true,true,true,true,true,false,false,true,false,false,false,false] 4 (n:=101) (listed':=#[true,true,true,true,true,true,true,false,true,true,true,true,true,true,true,true,true,true,false,false,true,false,false,false,false]) rfl (by kernel_rfl) (by kernel_rfl) (by kernel_rfl) (by kernel_rfl) rfl (by kernel_rfl) (fun _ _ d _ _ h=>by cases d <;> exact h) ((Fr.refl _ w6).drew) ?_
       apply qg
       refine ⟨fun wf Ff=>?_,?_⟩
       ·have k10:=qb (Ff.cell c10 (by simp))
        have k14:=qb (Ff.cell c14 (by simp))
        have q14:=qb (Ff.cell y14 (by simp))
        have qz0:=qb (Ff.cell z0 (by simp))
        have qz1:=qb (Ff.cell z1 (by simp))
        have qz2:=qb (Ff.cell z2 (by simp))
        simp only [sel]
        repeat (go_big_quiet_step (fail))
        exact wpQuiet_nil rfl
       clear c10 c14 y14 z0 z1 z2
       refine ji [7,18] (by kernel_rfl) (by simp) (fun w10 F10 i' hi' o ho=>?_)
       have G:=(Fr.refl [] w6).drew.trans F10
       clear F10
       simp only [List.mem_cons,List.not_mem_nil,or_false] at hi'
       rcases hi' with rfl | rfl
       focus
        obtain rfl:=qi ho
        go_wp2_with (at_builtin;refine qp zh rfl _ _ 91 rfl Tryz.underlying91 itI rfl (B:=w6.heap.size) (.slice none 0 0) [] rfl ⟨rfl,.inl ⟨rfl,rfl⟩⟩ _ T1 rfl (HS1.out.up G) (by have:=HT.out;simp;omega) (by decide) G.size ?_;intro a21 c21 w21 r21 f21)
        rw [List.nil_append] at r21
        replace G:=G.trans f21
        clear f21
        refine ql ⟨G,?_⟩
        refine loq 18 (fun w11 F11=>?_)
        have r11:=qm r21 F11
        replace G:=G.trans F11
        clear r21 F11
        go_wp2_with fail
        have F12:=(Fr.refl [] w11).alloc (.cells #[.int .i64 z.k,.int .i64 z.v,.int .i64 z.d] 99)
        have B12:=Go.heap_alloc_new w11 (.cells #[.int .i64 z.k,.int .i64 z.v,.int .i64 z.d] 99)
        have r12:=qm r11 F12
        replace G:=G.trans F12
        clear r11 F12
        refine ql ⟨G,?_⟩
        refine loq 19 (fun w13 F13=>?_)
        have r22:=qm r12 F13
        have B22:=F13.heap B12 (by simp)
        replace G:=G.trans F13
        clear r12 B12 F13
       rotate_left
       focus
        obtain rfl:=qi ho
        go_wp2_with fail
        have F12:=(Fr.refl [] w10).alloc (.cells #[.int .i64 z.k,.int .i64 z.v,.int .i64 z.d] 99)
        have B12:=Go.heap_alloc_new w10 (.cells #[.int .i64 z.k,.int .i64 z.v,.int .i64 z.d] 99)
        replace G:=G.trans F12
        clear F12
        refine ql ⟨G,?_⟩
        refine loq 7 (fun w11 F11=>?_)
        have B13:=F11.heap B12 (by simp)
        replace G:=G.trans F11
        clear B12 F11
        go_wp2_with (at_builtin;refine qp zh rfl _ _ 91 rfl Tryz.underlying91 itI rfl (B:=w6.heap.size) (.slice none 0 0) [] rfl ⟨rfl,.inl ⟨rfl,rfl⟩⟩ _ T1 rfl (HS1.out.up G) (by have:=HT.out;simp;omega) (by decide) G.size ?_;intro a21 c21 w21 r21 f21)
        rw [List.nil_append] at r21
        have B21:=Fr.heap f21 B13 (by simp [Value.ownBlock])
        replace G:=G.trans f21
        clear f21 B13
        refine ql ⟨G,?_⟩
        refine loq 19 (fun w13 F13=>?_)
        have r22:=qm r21 F13
        have B22:=F13.heap B21 (by simp)
        replace G:=G.trans F13
        clear r21 B21 F13
       rotate_left
       all_goals
        go_wp2_with (at_builtin;refine qp zh rfl _ _ 91 rfl Tryz.underlying91 itI rfl (B:=w6.heap.size) _ T1 rfl r22 _ [z] rfl (Sq.block B22 rfl rfl (Nat.le_refl _) (by simp [maxLen])) (by have:=HT.out;simp;omega) (by decide) G.size ?_;intro a23 c23 w23 r23 f23;generalize hT3:T1++[z]=T3 at r23 ⊢)
        replace G:=G.own f23 (z8 r22)
        clear f23 r22 B22
        refine ql ⟨G,?_⟩
        refine loq 21 (fun w14 F14=>?_)
        have r24:=qm r23 F14
        replace G:=G.trans F14
        clear r23 F14
        go_wp2_with (at_builtin;refine qp zh rfl _ _ 91 rfl Tryz.underlying91 itI rfl (B:=w6.heap.size) _ T3 rfl r24 _ T2 rfl (HS2.out.up G) (by have:=HT.out;rw [<- hT3];simp;omega) (by decide) G.size ?_;intro a25 c25 w25 r25 f25;generalize hT4:T3++T2=T4 at r25 ⊢)
        replace G:=G.own f25 (z8 r24)
        clear f25 r24
        refine ql ⟨G,?_⟩
        refine qx (k:=22) rfl (by kernel_rfl) (fun w15 F15=>?_)
        have r26:=qm r25 F15
        replace G:=G.trans F15
        clear r25 F15
        have h26:=Ob.up HW5.out.1 G
        have z26:=h26.frozen
        obtain C14:=zo h26
        have HT4:=q9 (qc hT3 hT4)
        clear hT3 hT4
        have HG:=q9 (qc r26 (qc G h26))
        clear r26 G h26
        go_wp2_with fail
        go_roundw
        case rel =>
         have e26:Zx its z=T4:=by rw [HT.out.2.2,HT4.out.1,HT4.out.2]
         have hl5:=HW5.out.2.1.size
         have hob:=Ob.set HG.out.2.2 (i:=14) (.slice a25 T4.length c25)
         have hlb:=HW5.out.1.lt
         have hsq:=(Sq.own HG.out.1).kept (Fr.setCell (S:=[b]) (b:=b) (i:=14) (.slice a25 T4.length c25) (by simp)) (fun g hg hi=>by have:=z8 HG.out.1 g hg;simp at hi;omega)
         exact ⟨i+1,.slice a25 T4.length c25,by omega,by go_num,by rw [HZ.out.2,e26];exact hob,by rw [HZ.out.2,e26];exact hsq,.inr ⟨by rw [HZ.out.2];exact q0u _ _,fun g hg=>qh hl5 (z8 HG.out.1 g hg)⟩,(HW5.out.2.1.then HG.out.2.1).setCell' _ (by simp)⟩
        case measure=>simp [intOf];omega
     have g2:(yk.k == z.k)=false:=by simpa using q2
     have HQ2:=q9 q2
     clear q2
     refine wiq ?_
     repeat (go_big_quiet_step (fail))
     refine wpQuiet_nil ?_
     intro w6 F6
     have FG:=q9 (FF.out.trans F6)
     have HW5:=q9 (qc (Ob.up HH0.out.1 FG.out) (qc (HH0.out.2.then FG.out) FG.out))
     have HI5:=q9 (HI.out.up FG.out)
     replace c10:=F6.cell c10 (by simp)
     replace c14:=F6.cell c14 (by simp)
     replace y14:=F6.cell y14 (by simp)
     replace z0:=F6.cell z0 (by simp)
     replace z1:=F6.cell z1 (by simp)
     replace z2:=F6.cell z2 (by simp)
     clear F6 k10 q14 qz kd
     go_wp2_with fail
     have HS2:=q9 (show Sq fT w6 (.slice (some ⟨gk,ok+k * 3,none⟩) (mm+1) (ci - k)) (its.drop k) by have:=Sq.drop zh HI5.out k (by omega);rwa [hmm] at this)
     have HT:=q9 (show (its.take k).length+(its.drop k).length<=900000/\True/\Zx its z=its.take k++[z]++(its.drop k) from ⟨by rw [List.length_take];rw [List.length_drop];omega,trivial,by
      rw [Rz (by omega) hk1 (fun y hy=>by rw [HYK.out] at hy;cases hy;have:=HQ.out;omega),HYK.out]
      simp [HQ2.out]⟩)
     generalize its.drop k=T2 at HS2 HT
     have HS1:=q9 (Sq.take zh (HI5.out) k (by omega))
     generalize hT1:its.take k=T1 at HS1 HT
     clear hT1
     refine qo (by kernel_rfl) ?_
     refine z6 [] w6 #[true,true,true,true,true,true,true,true,true,true,true,true,true,true,true,true,true,true,true,true,true,true,false,false,false] 22 3 rfl ?_
     refine yx [true,true,true,true,true,true,true,false,true,true,true,true,true,true,true,true,true,true,false,false,true,false,false,false,false] 4 (n:=101) (listed':=#[true,true,true,true,true,true,true,false,true,true,true,true,true,true,true,true,true,true,false,false,true,false,false,false,false]) rfl (by kernel_rfl) (by kernel_rfl) (by kernel_rfl) (by kernel_rfl) rfl (by kernel_rfl) (fun _ _ d _ _ h=>by cases d <;> exact h) ((Fr.refl _ w6).drew) ?_
     apply qg
     refine ⟨fun wf Ff=>?_,?_⟩
     ·have k10:=qb (Ff.cell c10 (by simp))
      have k14:=qb (Ff.cell c14 (by simp))
      have q14:=qb (Ff.cell y14 (by simp))
      have qz0:=qb (Ff.cell z0 (by simp))
      have qz1:=qb (Ff.cell z1 (by simp))
      have qz2:=qb (Ff.cell z2 (by simp))
      simp only [sel]
      repeat (go_big_quiet_step (fail))
      exact wpQuiet_nil rfl
     clear c10 c14 y14 z0 z1 z2
     refine ji [7,18] (by kernel_rfl) (by simp) (fun w10 F10 i' hi' o ho=>?_)
     have G:=(Fr.refl [] w6).drew.trans F10
     clear F10
     simp only [List.mem_cons,List.not_mem_nil,or_false] at hi'
     rcases hi' with rfl | rfl
     focus
      obtain rfl:=qi ho
      go_wp2_with (at_builtin;refine qp zh rfl _ _ 91 rfl Tryz.underlying91 itI rfl (B:=w6.heap.size) (.slice none 0 0) [] rfl ⟨rfl,.inl ⟨rfl,rfl⟩⟩ _ T1 rfl (HS1.out.up G) (by have:=HT.out;simp;omega) (by decide) G.size ?_;intro a21 c21 w21 r21 f21)
      rw [List.nil_append] at r21
      replace G:=G.trans f21
      clear f21
      refine ql ⟨G,?_⟩
      refine loq 18 (fun w11 F11=>?_)
      have r11:=qm r21 F11
      replace G:=G.trans F11
      clear r21 F11
      go_wp2_with fail
      have F12:=(Fr.refl [] w11).alloc (.cells #[.int .i64 z.k,.int .i64 z.v,.int .i64 z.d] 99)
      have B12:=Go.heap_alloc_new w11 (.cells #[.int .i64 z.k,.int .i64 z.v,.int .i64 z.d] 99)
      have r12:=qm r11 F12
      replace G:=G.trans F12
      clear r11 F12
      refine ql ⟨G,?_⟩
      refine loq 19 (fun w13 F13=>?_)
      have r22:=qm r12 F13
      have B22:=F13.heap B12 (by simp)
      replace G:=G.trans F13
      clear r12 B12 F13
     rotate_left
     focus
      obtain rfl:=qi ho
      go_wp2_with fail
      have F12:=(Fr.refl [] w10).alloc (.cells #[.int .i64 z.k,.int .i64 z.v,.int .i64 z.d] 99)
      have B12:=Go.heap_alloc_new w10 (.cells #[.int .i64 z.k,.int .i64 z.v,.int .i64 z.d] 99)
      replace G:=G.trans F12
      clear F12
      refine ql ⟨G,?_⟩
      refine loq 7 (fun w11 F11=>?_)
      have B13:=F11.heap B12 (by simp)
      replace G:=G.trans F11
      clear B12 F11
      go_wp2_with (at_builtin;refine qp zh rfl _ _ 91 rfl Tryz.underlying91 itI rfl (B:=w6.heap.size) (.slice none 0 0) [] rfl ⟨rfl,.inl ⟨rfl,rfl⟩⟩ _ T1 rfl (HS1.out.up G) (by have:=HT.out;simp;omega) (by decide) G.size ?_;intro a21 c21 w21 r21 f21)
      rw [List.nil_append] at r21
      have B21:=Fr.heap f21 B13 (by simp [Value.ownBlock])
      replace G:=G.trans f21
      clear f21 B13
      refine ql ⟨G,?_⟩
      refine loq 19 (fun w13 F13=>?_)
      have r22:=qm r21 F13
      have B22:=F13.heap B21 (by simp)
      replace G:=G.trans F13
      clear r21 B21 F13
     rotate_left
     all_goals
      go_wp2_with (at_builtin;refine qp zh rfl _ _ 91 rfl Tryz.underlying91 itI rfl (B:=w6.heap.size) _ T1 rfl r22 _ [z] rfl (Sq.block B22 rfl rfl (Nat.le_refl _) (by simp [maxLen])) (by have:=HT.out;simp;omega) (by decide) G.size ?_;intro a23 c23 w23 r23 f23;generalize hT3:T1++[z]=T3 at r23 ⊢)
      replace G:=G.own f23 (z8 r22)
      clear f23 r22 B22
      refine ql ⟨G,?_⟩
      refine loq 21 (fun w14 F14=>?_)
      have r24:=qm r23 F14
      replace G:=G.trans F14
      clear r23 F14
      go_wp2_with (at_builtin;refine qp zh rfl _ _ 91 rfl Tryz.underlying91 itI rfl (B:=w6.heap.size) _ T3 rfl r24 _ T2 rfl (HS2.out.up G) (by have:=HT.out;rw [<- hT3];simp;omega) (by decide) G.size ?_;intro a25 c25 w25 r25 f25;generalize hT4:T3++T2=T4 at r25 ⊢)
      replace G:=G.own f25 (z8 r24)
      clear f25 r24
      refine ql ⟨G,?_⟩
      refine qx (k:=22) rfl (by kernel_rfl) (fun w15 F15=>?_)
      have r26:=qm r25 F15
      replace G:=G.trans F15
      clear r25 F15
      have h26:=Ob.up HW5.out.1 G
      have z26:=h26.frozen
      obtain C14:=zo h26
      have HT4:=q9 (qc hT3 hT4)
      clear hT3 hT4
      have HG:=q9 (qc r26 (qc G h26))
      clear r26 G h26
      go_wp2_with fail
      go_roundw
      case rel =>
       have e26:Zx its z=T4:=by rw [HT.out.2.2,HT4.out.1,HT4.out.2]
       have hl5:=HW5.out.2.1.size
       have hob:=Ob.set HG.out.2.2 (i:=14) (.slice a25 T4.length c25)
       have hlb:=HW5.out.1.lt
       have hsq:=(Sq.own HG.out.1).kept (Fr.setCell (S:=[b]) (b:=b) (i:=14) (.slice a25 T4.length c25) (by simp)) (fun g hg hi=>by have:=z8 HG.out.1 g hg;simp at hi;omega)
       exact ⟨i+1,.slice a25 T4.length c25,by omega,by go_num,by rw [HZ.out.2,e26];exact hob,by rw [HZ.out.2,e26];exact hsq,.inr ⟨by rw [HZ.out.2];exact q0u _ _,fun g hg=>qh hl5 (z8 HG.out.1 g hg)⟩,(HW5.out.2.1.then HG.out.2.1).setCell' _ (by simp)⟩
      case measure=>simp [intOf];omega
    ·obtain rfl:k=its.length:=by omega
     have k10:=qb (F2.cell c10 (by simp))
     have k14:=qb (F2.cell c14 (by simp))
     have q14:=qb (F2.cell y14 (by simp))
     have qz:=qb (F2.cell z0 (by simp))
     have gk0:decide ((its.length:Int)<(its.length:Int))=false:=by simp
     go_wp2_with fail
     refine wiq ?_
     repeat (go_big_quiet_step (fail))
     refine wpQuiet_nil ?_
     intro w5 F5
     have FF:=q9 (F2.trans F5)
     clear k10 k14 q14 qz F2 F5
     have c10:=FF.out.cell c10 (by simp)
     have c14:=FF.out.cell c14 (by simp)
     have y14:=FF.out.cell y14 (by simp)
     have z0:=FF.out.cell z0 (by simp)
     have z1:=FF.out.cell z1 (by simp)
     have z2:=FF.out.cell z2 (by simp)
     by_cases hce:ci=its.length
     focus
      subst hce
      go_wp2_with fail
      refine wiq ?_
      repeat (go_big_quiet_step (fail))
      refine wpQuiet_nil ?_
      intro w6 F6
      have FG:=q9 (FF.out.trans F6)
      have HW5:=q9 (qc (Ob.up HH0.out.1 FG.out) (qc (HH0.out.2.then FG.out) FG.out))
      have HI5:=q9 (HI.out.up FG.out)
      replace c10:=F6.cell c10 (by simp)
      replace c14:=F6.cell c14 (by simp)
      replace y14:=F6.cell y14 (by simp)
      replace z0:=F6.cell z0 (by simp)
      replace z1:=F6.cell z1 (by simp)
      replace z2:=F6.cell z2 (by simp)
      clear F6
      go_wp2_with fail
      obtain ⟨T2,hT2⟩:∃ T:List It,T=[]:=⟨[],rfl⟩
      have HS2:=q9 (show Sq fT w6 (.slice ai 0 0) T2 from hT2 ▸ Sq.empty _ _ (by simp [maxLen]))
     rotate_left
     focus
      go_wp2_with fail
      refine wiq ?_
      repeat (go_big_quiet_step (fail))
      refine wpQuiet_nil ?_
      intro w6 F6
      have FG:=q9 (FF.out.trans F6)
      have HW5:=q9 (qc (Ob.up HH0.out.1 FG.out) (qc (HH0.out.2.then FG.out) FG.out))
      have HI5:=q9 (HI.out.up FG.out)
      replace c10:=F6.cell c10 (by simp)
      replace c14:=F6.cell c14 (by simp)
      replace y14:=F6.cell y14 (by simp)
      replace z0:=F6.cell z0 (by simp)
      replace z1:=F6.cell z1 (by simp)
      replace z2:=F6.cell z2 (by simp)
      clear F6
      go_wp2_with fail
      obtain ⟨T2,hT2⟩:∃ T:List It,T=[]:=⟨[],rfl⟩
      have HS2:=q9 (show Sq fT w6 (.slice (Option.map (fun x=>x.add (its.length * 3)) ai) 0 (ci - its.length)) T2 from hT2 ▸ Sq.empty _ _ (by omega))
     rotate_left
     all_goals
      have HT:=q9 (show (its.take its.length).length+T2.length<=900000/\True/\Zx its z=its.take its.length++[z]++T2 from ⟨by rw [hT2,List.length_take];simp;omega,trivial,by
       rw [hT2,Rz (Nat.le_refl _) hk1 (fun y hy=>by simp at hy)]
       simp⟩)
      generalize hk0:its.length=k at HS2 HT HI5 HW5 ⊢
      clear hT2
      have HS1:=q9 (Sq.take zh (HI5.out) k (by omega))
      generalize hT1:its.take k=T1 at HS1 HT
      clear hT1
      refine qo (by kernel_rfl) ?_
      refine z6 [] w6 #[true,true,true,true,true,true,true,true,true,true,true,true,true,true,true,true,true,true,true,true,true,true,false,false,false] 22 3 rfl ?_
      refine yx [true,true,true,true,true,true,true,false,true,true,true,true,true,true,true,true,true,true,false,false,true,false,false,false,false] 4 (n:=101) (listed':=#[true,true,true,true,true,true,true,false,true,true,true,true,true,true,true,true,true,true,false,false,true,false,false,false,false]) rfl (by kernel_rfl) (by kernel_rfl) (by kernel_rfl) (by kernel_rfl) rfl (by kernel_rfl) (fun _ _ d _ _ h=>by cases d <;> exact h) ((Fr.refl _ w6).drew) ?_
      apply qg
      refine ⟨fun wf Ff=>?_,?_⟩
      ·have k10:=qb (Ff.cell c10 (by simp))
       have k14:=qb (Ff.cell c14 (by simp))
       have q14:=qb (Ff.cell y14 (by simp))
       have qz0:=qb (Ff.cell z0 (by simp))
       have qz1:=qb (Ff.cell z1 (by simp))
       have qz2:=qb (Ff.cell z2 (by simp))
       simp only [sel]
       repeat (go_big_quiet_step (fail))
       exact wpQuiet_nil rfl
      clear c10 c14 y14 z0 z1 z2
      refine ji [7,18] (by kernel_rfl) (by simp) (fun w10 F10 i' hi' o ho=>?_)
      have G:=(Fr.refl [] w6).drew.trans F10
      clear F10
      simp only [List.mem_cons,List.not_mem_nil,or_false] at hi'
      rcases hi' with rfl | rfl
      focus
       obtain rfl:=qi ho
       go_wp2_with (at_builtin;refine qp zh rfl _ _ 91 rfl Tryz.underlying91 itI rfl (B:=w6.heap.size) (.slice none 0 0) [] rfl ⟨rfl,.inl ⟨rfl,rfl⟩⟩ _ T1 rfl (HS1.out.up G) (by have:=HT.out;simp;omega) (by decide) G.size ?_;intro a21 c21 w21 r21 f21)
       rw [List.nil_append] at r21
       replace G:=G.trans f21
       clear f21
       refine ql ⟨G,?_⟩
       refine loq 18 (fun w11 F11=>?_)
       have r11:=qm r21 F11
       replace G:=G.trans F11
       clear r21 F11
       go_wp2_with fail
       have F12:=(Fr.refl [] w11).alloc (.cells #[.int .i64 z.k,.int .i64 z.v,.int .i64 z.d] 99)
       have B12:=Go.heap_alloc_new w11 (.cells #[.int .i64 z.k,.int .i64 z.v,.int .i64 z.d] 99)
       have r12:=qm r11 F12
       replace G:=G.trans F12
       clear r11 F12
       refine ql ⟨G,?_⟩
       refine loq 19 (fun w13 F13=>?_)
       have r22:=qm r12 F13
       have B22:=F13.heap B12 (by simp)
       replace G:=G.trans F13
       clear r12 B12 F13
      rotate_left
      focus
       obtain rfl:=qi ho
       go_wp2_with fail
       have F12:=(Fr.refl [] w10).alloc (.cells #[.int .i64 z.k,.int .i64 z.v,.int .i64 z.d] 99)
       have B12:=Go.heap_alloc_new w10 (.cells #[.int .i64 z.k,.int .i64 z.v,.int .i64 z.d] 99)
       replace G:=G.trans F12
       clear F12
       refine ql ⟨G,?_⟩
       refine loq 7 (fun w11 F11=>?_)
       have B13:=F11.heap B12 (by simp)
       replace G:=G.trans F11
       clear B12 F11
       go_wp2_with (at_builtin;refine qp zh rfl _ _ 91 rfl Tryz.underlying91 itI rfl (B:=w6.heap.size) (.slice none 0 0) [] rfl ⟨rfl,.inl ⟨rfl,rfl⟩⟩ _ T1 rfl (HS1.out.up G) (by have:=HT.out;simp;omega) (by decide) G.size ?_;intro a21 c21 w21 r21 f21)
       rw [List.nil_append] at r21
       have B21:=Fr.heap f21 B13 (by simp [Value.ownBlock])
       replace G:=G.trans f21
       clear f21 B13
       refine ql ⟨G,?_⟩
       refine loq 19 (fun w13 F13=>?_)
       have r22:=qm r21 F13
       have B22:=F13.heap B21 (by simp)
       replace G:=G.trans F13
       clear r21 B21 F13
      rotate_left
      all_goals
       go_wp2_with (at_builtin;refine qp zh rfl _ _ 91 rfl Tryz.underlying91 itI rfl (B:=w6.heap.size) _ T1 rfl r22 _ [z] rfl (Sq.block B22 rfl rfl (Nat.le_refl _) (by simp [maxLen])) (by have:=HT.out;simp;omega) (by decide) G.size ?_;intro a23 c23 w23 r23 f23;generalize hT3:T1++[z]=T3 at r23 ⊢)
       replace G:=G.own f23 (z8 r22)
       clear f23 r22 B22
       refine ql ⟨G,?_⟩
       refine loq 21 (fun w14 F14=>?_)
       have r24:=qm r23 F14
       replace G:=G.trans F14
       clear r23 F14
       go_wp2_with (at_builtin;refine qp zh rfl _ _ 91 rfl Tryz.underlying91 itI rfl (B:=w6.heap.size) _ T3 rfl r24 _ T2 rfl (HS2.out.up G) (by have:=HT.out;rw [<- hT3];simp;omega) (by decide) G.size ?_;intro a25 c25 w25 r25 f25;generalize hT4:T3++T2=T4 at r25 ⊢)
       replace G:=G.own f25 (z8 r24)
       clear f25 r24
       refine ql ⟨G,?_⟩
       refine qx (k:=22) rfl (by kernel_rfl) (fun w15 F15=>?_)
       have r26:=qm r25 F15
       replace G:=G.trans F15
       clear r25 F15
       have h26:=Ob.up HW5.out.1 G
       have z26:=h26.frozen
       obtain C14:=zo h26
       have HT4:=q9 (qc hT3 hT4)
       clear hT3 hT4
       have HG:=q9 (qc r26 (qc G h26))
       clear r26 G h26
       go_wp2_with fail
       go_roundw
       case rel =>
        have e26:Zx its z=T4:=by rw [HT.out.2.2,HT4.out.1,HT4.out.2]
        have hl5:=HW5.out.2.1.size
        have hob:=Ob.set HG.out.2.2 (i:=14) (.slice a25 T4.length c25)
        have hlb:=HW5.out.1.lt
        have hsq:=(Sq.own HG.out.1).kept (Fr.setCell (S:=[b]) (b:=b) (i:=14) (.slice a25 T4.length c25) (by simp)) (fun g hg hi=>by have:=z8 HG.out.1 g hg;simp at hi;omega)
        exact ⟨i+1,.slice a25 T4.length c25,by omega,by go_num,by rw [HZ.out.2,e26];exact hob,by rw [HZ.out.2,e26];exact hsq,.inr ⟨by rw [HZ.out.2];exact q0u _ _,fun g hg=>qh hl5 (z8 HG.out.1 g hg)⟩,(HW5.out.2.1.then HG.out.2.1).setCell' _ (by simp)⟩
       case measure=>simp [intOf];omega
  ·obtain rfl:i=l.length:=by omega
   rw [List.take_length] at h hi hn
   have HH:=q9 (qc h (qc hi (qc hn F)))
   clear h hi hn F
   go_wp2_with fail
   go_end0
   exact ⟨iv',rfl,HH.out.1,HH.out.2.1,HH.out.2.2.1,HH.out.2.2.2⟩
structure Y3 (N:Nat) (x:Sn):Prop where
 c:x.c.Ok
 kc:x.k.c=x.c
 kt:x.k.t=x.t
 t0:0<=x.t/\x.t<=8
 lo:0<=x.lo/\x.lo<=63
 w:∀ y,x.w=some y->y.c=x.c/\y.key=x.lo
 w1:x.line=11->x.w≠none
 l:∀ y,x.l=some y->Xm y
 l1:x.line=1->x.l≠none
 n:x.items.length<=16 * N
theorem Y3.new {c:Cf} (hc:c.Ok) {t seq lo hi:Int} (ht:0<=t/\t<=8) (hl:0<=lo/\lo<=63):Y3 0 (Sn.new c t seq lo hi) :=
 ⟨hc,rfl,rfl,ht,hl,fun y h=>(by cases h),fun h=>(by simp [Sn.new] at h),fun y h=>(by cases h),fun h=>(by simp [Sn.new] at h),by simp [Sn.new]⟩
theorem q5x (x:Km) (s:St):(x.step s).1.c=x.c/\(x.step s).1.t=x.t:=by
 unfold Km.step
 split
 ·unfold Km.next
  (repeat' split) <;> exact ⟨rfl,rfl⟩
 ·exact ⟨rfl,rfl⟩
theorem Y3.chunk {N:Nat} {x:Sn} (h:Y3 N x) (a:Int):Y3 N (x.chunk a) :=
 ⟨h.c,h.kc,h.kt,h.t0,h.lo,h.w,fun e=>(by simp [Sn.chunk] at e),fun y e=>(by cases e;exact Xm.new h.c _ _ _ _),fun _=>by simp [Sn.chunk],h.n⟩
theorem Y3.step {N:Nat} {x:Sn} (h:Y3 N x) (s:St):Y3 (N+1) (x.step s).1:=by
 have up:∀ {y:Sn},Y3 N y->Y3 (N+1) y:=fun k=>⟨k.c,k.kc,k.kt,k.t0,k.lo,k.w,k.w1,k.l,k.l1,qh k.n (by omega)⟩
 unfold Sn.step
 split
 ·split
  ·exact up ⟨h.c,h.kc,h.kt,h.t0,h.lo,h.w,fun e=>by simp at e,h.l,fun e=>by simp at e,h.n⟩
  ·have hk:=q5x x.k s
   simp only
   split
   ·refine up ⟨h.c,hk.1.trans h.kc,hk.2.trans h.kt,h.t0,h.lo,fun y e=>by cases e;exact ⟨rfl,rfl⟩,fun e=>by simp,h.l,fun e=>?_,h.n⟩
    simp only at e
    split at e <;> simp at e
   ·exact up ⟨h.c,hk.1.trans h.kc,hk.2.trans h.kt,h.t0,h.lo,h.w,h.w1,h.l,h.l1,h.n⟩
 ·split
  ·split
   ·rename_i y hy
    have hw:=h.w y hy
    have hk:=Kb y s
    have h2:Y3 N { x with w:=some (y.step s).1 }:=⟨h.c,h.kc,h.kt,h.t0,h.lo,fun z e=>by cases e;exact ⟨hk.1.trans hw.1,hk.2.trans hw.2⟩,fun e=>by simp,h.l,h.l1,h.n⟩
    simp only
    split
    ·exact up (h2.chunk _)
    ·exact up h2
   ·exact up h
  ·split
   ·split
    ·rename_i y hy
     have hl:=(h.l y hy).step s
     have h3:=hl.len
     have h4:=hl.i1
     simp only
     split
     ·refine ⟨h.c,h.kc,h.kt,h.t0,h.lo,h.w,fun e=>by simp at e,fun z e=>by cases e;exact hl,fun e=>by simp at e,?_⟩
      have:=Tu (y.step s).1.l x.items
      have:=h.n
      simp only
      omega
     ·exact up ⟨h.c,h.kc,h.kt,h.t0,h.lo,h.w,h.w1,fun z e=>by cases e;exact hl,fun e=>by simp,h.n⟩
    ·exact up h
   ·split
    ·refine up ⟨h.c,h.kc,h.kt,h.t0,h.lo,h.w,fun e=>?_,h.l,fun e=>?_,h.n⟩
     ·simp only at e;split at e <;> simp at e
     ·simp only at e;split at e <;> simp at e
    ·split
     ·simp only
      split
      ·exact up (h.chunk _)
      ·exact up ⟨h.c,h.kc,h.kt,h.t0,h.lo,h.w,fun e=>by simp at e,h.l,fun e=>by simp at e,h.n⟩
     ·split
      ·exact up ⟨h.c,h.kc,h.kt,h.t0,h.lo,h.w,fun e=>by simp at e,h.l,fun e=>by simp at e,h.n⟩
      ·exact up h
structure Xn (w:World) (x:Sn) (b bk:Nat) (wp lp:Option Nat) (iv:Value) (Bw Bl:List Nat):Prop where
 o:Ur w b x bk wp lp iv
 k:Yr w bk x.k
 ww:OpW w Bw x.w wp
 l:OpL w Bl x.l lp
 s:Sq fT w iv x.items
 g:∀ g,g∈iv.ownBlock.toList->g<w.heap.size
 nd:(b :: bk :: (Bw++(Bl++iv.ownBlock.toList))).Nodup
theorem Xn.inn {w:World} {x:Sn} {b bk:Nat} {wp lp:Option Nat} {iv:Value} {Bw Bl:List Nat} (h:Xn w x b bk wp lp iv Bw Bl):Kc w (b :: bk :: (Bw++(Bl++iv.ownBlock.toList))) b x :=
 ⟨bk,wp,lp,iv,Bw,Bl,h.o,h.k,h.ww,h.l,h.s,h.g,rfl,h.nd⟩
theorem Kc.pt {w:World} {B:List Nat} {x:Sn} {b:Nat} (h:Kc w B b x):∃ bk wp lp iv Bw Bl,Xn w x b bk wp lp iv Bw Bl/\B=b :: bk :: (Bw++(Bl++iv.ownBlock.toList)):=by
 obtain ⟨bk,wp,lp,iv,Bw,Bl,h1,h2,h3,h4,h5,h6,rfl,h8⟩:=h
 exact ⟨bk,wp,lp,iv,Bw,Bl,⟨h1,h2,h3,h4,h5,h6,h8⟩,rfl⟩
theorem Xn.re {S:List Nat} {w w':World} {x y:Sn} {b bk:Nat} {wp lp:Option Nat} {iv:Value} {Bw Bl:List Nat} (h:Xn w x b bk wp lp iv Bw Bl) (F:Fr S w w') (hS:∀ k,k∈bk :: (Bw++(Bl++iv.ownBlock.toList))->k∉S) (o:Ur w' b y bk wp lp iv)
  (ek:y.k=x.k) (ew:y.w=x.w) (el:y.l=x.l) (ei:y.items=x.items):Xn w' y b bk wp lp iv Bw Bl :=
 ⟨o,by rw [ek];exact Ob.kept h.k F (hS _ (by simp)),by rw [ew];exact h.ww.kept F (fun k hk=>hS k (by simp [hk])),by rw [el];exact h.l.kept F (fun k hk=>hS k (by simp [hk])),by rw [ei];exact h.s.kept F (fun g hg=>hS g (by simp only [List.mem_cons,List.mem_append];simp [hg])),fun g hg=>qj (h.g g hg) F.size,h.nd⟩
theorem Xn.rek {S:List Nat} {w w':World} {x:Sn} {b bk:Nat} {wp lp:Option Nat} {iv:Value} {Bw Bl:List Nat} {y:Km} (h:Xn w x b bk wp lp iv Bw Bl) (F:Fr S w w') (hS:∀ k,k∈b :: (Bw++(Bl++iv.ownBlock.toList))->k∉S) (k:Yr w' bk y):Xn w' { x with k:=y } b bk wp lp iv Bw Bl :=
 ⟨Ob.kept h.o F (hS _ (by simp)),k,h.ww.kept F (fun k hk=>hS k (by simp [hk])),h.l.kept F (fun k hk=>hS k (by simp [hk])),h.s.kept F (fun g hg=>hS g (by simp only [List.mem_cons,List.mem_append];simp [hg])),fun g hg=>qj (h.g g hg) F.size,h.nd⟩
theorem Xn.rew {S:List Nat} {w w':World} {x:Sn} {b bk bw:Nat} {lp:Option Nat} {iv:Value} {Bl:List Nat} {y:Wk} (h:Xn w x b bk (some bw) lp iv [bw] Bl) (F:Fr S w w') (hS:∀ k,k∈b :: bk :: (Bl++iv.ownBlock.toList)->k∉S) (k:Qy w' bw y):Xn w' { x with w:=some y } b bk (some bw) lp iv [bw] Bl :=
 ⟨Ob.kept h.o F (hS _ (by simp)),Ob.kept h.k F (hS _ (by simp)),⟨bw,rfl,k,rfl⟩,h.l.kept F (fun k hk=>hS k (by simp [hk])),h.s.kept F (fun g hg=>hS g (by simp only [List.mem_cons,List.mem_append];simp [hg])),fun g hg=>qj (h.g g hg) F.size,h.nd⟩
theorem q9a (x:Sn) (s:St) (N:Nat) (hx:Y3 N x) (hl:x.line=10) (hh:x.hi<x.lo) (b bk p q:Nat) (wp lp:Option Nat) (iv:Value) (Bw Bl:List Nat) (w:World) (h:Xn w x b bk wp lp iv Bw Bl) (hA:Rar w p q s) (hp:p∉b :: bk :: (Bw++(Bl++iv.ownBlock.toList))) (hq:q∉b :: bk :: (Bw++(Bl++iv.ownBlock.toList))) :
  Calls Tryz.prog 130 #[.pointer (some ⟨b,0,none⟩),.pointer (some ⟨p,0,none⟩)] w (Stp w (fun w' B'=>Kc w' B' b ({ x with line:=0 })) (b :: bk :: (Bw++(Bl++iv.ownBlock.toList))) p q (s) (true)):=by
 generalize hy:({ x with line:=0 })=y0
 have HY:=q9 hy
 clear hy
 have hlt:=h.inn.lt
 have hnd:=h.nd
 simp only [List.nodup_cons,List.mem_cons,List.mem_append,not_or] at hnd
 obtain ⟨⟨n1,n2,n3,n4⟩,⟨n5,n6,n7⟩,n8⟩:=hnd
 have hp':=hp
 have hq':=hq
 simp only [List.mem_cons,List.mem_append,not_or] at hp' hq'
 obtain ⟨p1,p2,p3,p4,p5⟩:=hp'
 obtain ⟨q1,q2,q3,q4,q5⟩:=hq'
 have HL:=q9 (qc hlt (qc h.nd (qc hp hq)))
 clear hlt hp hq
 obtain ⟨c0,c1,c2,c3,c4,c5,c6,c7,c8,c9,c10,c11,c12,c13,c14⟩:=zo h.o
 have z:=h.o.frozen
 go_enter Tryz.func130,Tryz.ntmps130
 go_wp2_with fail
 have k6:=qb c6
 have k7:=qb c7
 have g1:decide (x.lo>x.hi)=true:=by simpa using hh
 refine wiq ?_
 repeat (go_big_quiet_step (fail))
 refine wpQuiet_nil ?_
 intro w5 F5
 have h5:=h.re F5 (by simp) (Ob.up h.o F5) rfl rfl rfl rfl
 have A5:=hA.kept F5
 clear k6 k7 c0 c1 c2 c3 c4 c5 c6 c7 c8 c9 c10 c11 c12 c13 c14 z
 obtain ⟨c0,c1,c2,c3,c4,c5,c6,c7,c8,c9,c10,c11,c12,c13,c14⟩:=zo h5.o
 have z:=h5.o.frozen
 clear h hA
 go_wp2_with fail
 go_ret
 have SC:Fr [b] w5 (w5.setCell ⟨b,11,none⟩ (.int .i64 0)):=Fr.setCell _ (by simp)
 rw [<- HY.out]
 exact Stp.of rfl (Xn.inn (h5.re SC (fun k hk hi=>by simp at hi;subst hi;simp only [List.mem_cons,List.mem_append] at hk;rcases hk with h | h | h | h <;> contradiction) (Ob.set h5.o (i:=11) (.int .i64 0)) rfl rfl rfl rfl)) (fun k hk=>.inl hk) (Rar.set A5 (Ne.symm p1) (Ne.symm q1) _) ((F5.mono).trans (SC.mono))
theorem qbx (x:Sn) (s:St) (N:Nat) (hx:Y3 N x) (hl:x.line=2) (b bk p q:Nat) (wp lp:Option Nat) (iv:Value) (Bw Bl:List Nat) (w:World) (h:Xn w x b bk wp lp iv Bw Bl) (hA:Rar w p q s) (hp:p∉b :: bk :: (Bw++(Bl++iv.ownBlock.toList))) (hq:q∉b :: bk :: (Bw++(Bl++iv.ownBlock.toList))) :
  Calls Tryz.prog 130 #[.pointer (some ⟨b,0,none⟩),.pointer (some ⟨p,0,none⟩)] w (Stp w (fun w' B'=>Kc w' B' b ({ x with n:=atW (qq s.l (wrap64 (x.at_+2))),line:=if atW (qq s.l (wrap64 (x.at_+2)))=0 then 4 else 3 })) (b :: bk :: (Bw++(Bl++iv.ownBlock.toList))) p q (s.load (wrap64 (x.at_+2))) (false)):=by
 generalize hy:({ x with n:=atW (qq s.l (wrap64 (x.at_+2))),line:=if atW (qq s.l (wrap64 (x.at_+2)))=0 then 4 else 3 })=y0
 have HY:=q9 hy
 clear hy
 have hlt:=h.inn.lt
 have hnd:=h.nd
 simp only [List.nodup_cons,List.mem_cons,List.mem_append,not_or] at hnd
 obtain ⟨⟨n1,n2,n3,n4⟩,⟨n5,n6,n7⟩,n8⟩:=hnd
 have hp':=hp
 have hq':=hq
 simp only [List.mem_cons,List.mem_append,not_or] at hp' hq'
 obtain ⟨p1,p2,p3,p4,p5⟩:=hp'
 obtain ⟨q1,q2,q3,q4,q5⟩:=hq'
 have HL:=q9 (qc hlt (qc h.nd (qc hp hq)))
 clear hlt hp hq
 obtain ⟨c0,c1,c2,c3,c4,c5,c6,c7,c8,c9,c10,c11,c12,c13,c14⟩:=zo h.o
 have z:=h.o.frozen
 go_enter Tryz.func130,Tryz.ntmps130
 go_wp2_with fail
 refine (Ref.zi _ p q s _ hA).mono ?_;rintro e w5 ⟨rfl,A5,F5⟩
 have h5:=h.re F5 (fun k hk hi=>by simp only [List.mem_cons,List.mem_append,List.not_mem_nil,or_false] at hk hi;rcases hi with rfl | rfl <;> rcases hk with h | h | h | h <;> contradiction) (Ob.kept h.o F5 (by simp;exact ⟨Ne.symm p1,Ne.symm q1⟩)) rfl rfl rfl rfl
 have D5:Fr (p :: q :: b :: bk :: (Bw++(Bl++iv.ownBlock.toList))) w w5:=F5.mono
 clear c0 c1 c2 c3 c4 c5 c6 c7 c8 c9 c10 c11 c12 c13 c14 z h hA F5
 go_wp2_with fail
 refine (Vn _ _).mono ?_;rintro e _ ⟨rfl,rfl⟩
 generalize hv:atW (qq s.l (wrap64 (x.at_+2)))=v at *
 have HV:=q9 hv
 clear hv
 obtain ⟨c0,c1,c2,c3,c4,c5,c6,c7,c8,c9,c10,c11,c12,c13,c14⟩:=zo h5.o
 have z:=h5.o.frozen
 by_cases e0:v=0
 ·have g1:(v == 0)=true:=by simpa using e0
  have hn:y0 = { x with n:=v,line:=4 }:=by rw [<- HY.out,qf e0]
  subst hn
  clear e0
  have o6:Ur _ b { x with n:=v,line:=4 } bk wp lp iv:=Ob.set (Ob.set (Ob.set h5.o (i:=13) (.int .i64 v)) (i:=11) (.int .i64 3)) (i:=11) (.int .i64 4)
  have d11:=(zo o6).2.2.2.2.2.2.2.2.2.2.2.1
  go_wp2_with fail
  go_ret
  have S6:Fr [b] w5 (((w5.setCell ⟨b,13,none⟩ (.int .i64 v)).setCell ⟨b,11,none⟩ (.int .i64 3)).setCell ⟨b,11,none⟩ (.int .i64 4)):=((Fr.setCell _ (by simp)).setCell' _ (by simp)).setCell' _ (by simp)
  exact Stp.of rfl (Xn.inn (h5.re S6 (fun k hk hi=>by simp at hi;subst hi;simp only [List.mem_cons,List.mem_append] at hk;rcases hk with h | h | h | h <;> contradiction) o6 rfl rfl rfl rfl)) (fun k hk=>.inl hk) (A5.kept S6 (by simpa using p1) (by simpa using q1)) (D5.trans (S6.mono))
 ·have g1:(v == 0)=false:=by simpa using e0
  have hn:y0 = { x with n:=v,line:=3 }:=by rw [<- HY.out,qd e0]
  subst hn
  go_wp2_with fail
  go_ret
  have o6:Ur _ b { x with n:=v,line:=3 } bk wp lp iv:=Ob.set (Ob.set h5.o (i:=13) (.int .i64 v)) (i:=11) (.int .i64 3)
  have S6:Fr [b] w5 ((w5.setCell ⟨b,13,none⟩ (.int .i64 v)).setCell ⟨b,11,none⟩ (.int .i64 3)):=(Fr.setCell _ (by simp)).setCell' _ (by simp)
  exact Stp.of rfl (Xn.inn (h5.re S6 (fun k hk hi=>by simp at hi;subst hi;simp only [List.mem_cons,List.mem_append] at hk;rcases hk with h | h | h | h <;> contradiction) o6 rfl rfl rfl rfl)) (fun k hk=>.inl hk) (A5.kept S6 (by simpa using p1) (by simpa using q1)) (D5.trans (S6.mono))
theorem qcl (x:Sn) (s:St) (N:Nat) (hx:Y3 N x) (hl:x.line=4) (b bk p q:Nat) (wp lp:Option Nat) (iv:Value) (Bw Bl:List Nat) (w:World) (h:Xn w x b bk wp lp iv Bw Bl) (hA:Rar w p q s) (hp:p∉b :: bk :: (Bw++(Bl++iv.ownBlock.toList))) (hq:q∉b :: bk :: (Bw++(Bl++iv.ownBlock.toList))) :
  Calls Tryz.prog 130 #[.pointer (some ⟨b,0,none⟩),.pointer (some ⟨p,0,none⟩)] w (Stp w (fun w' B'=>Kc w' B' b ({ x with line:=0 })) (b :: bk :: (Bw++(Bl++iv.ownBlock.toList))) p q (s.store (q9x x.t) (Q8 x.seq 0)) (true)):=by
 generalize hy:({ x with line:=0 })=y0
 have HY:=q9 hy
 clear hy
 have hlt:=h.inn.lt
 have hnd:=h.nd
 simp only [List.nodup_cons,List.mem_cons,List.mem_append,not_or] at hnd
 obtain ⟨⟨n1,n2,n3,n4⟩,⟨n5,n6,n7⟩,n8⟩:=hnd
 have hp':=hp
 have hq':=hq
 simp only [List.mem_cons,List.mem_append,not_or] at hp' hq'
 obtain ⟨p1,p2,p3,p4,p5⟩:=hp'
 obtain ⟨q1,q2,q3,q4,q5⟩:=hq'
 have HL:=q9 (qc hlt (qc h.nd (qc hp hq)))
 clear hlt hp hq
 obtain ⟨c0,c1,c2,c3,c4,c5,c6,c7,c8,c9,c10,c11,c12,c13,c14⟩:=zo h.o
 have z:=h.o.frozen
 go_enter Tryz.func130,Tryz.ntmps130
 go_wp2_with fail
 have ht:=hx.t0
 refine qy (by kernel_rfl) [p,q] (fun w2 F2=>?_)
 refine epq [true,true,true,true,true,true,true,true,true,true,true,false] 1 (F2.mono) ?_
 apply qg
 refine ⟨fun wf Ff=>?_,?_⟩
 ·have of:Ur wf b x bk wp lp iv:=Ob.kept h.o Ff (by simp;exact ⟨Ne.symm p1,Ne.symm q1⟩)
  obtain ⟨c0,c1,c2,c3,c4,c5,c6,c7,c8,c9,c10,c11,c12,c13,c14⟩:=zo of
  have k4:=qb c4
  have k5:=qb c5
  clear c0 c1 c2 c3 c4 c5 c6 c7 c8 c9 c10 c11 c12 c13 c14
  simp only [sel]
  repeat (go_big_quiet_step ((first | (go_at_call 172;exact Calls.in_same (Ref.jw x.t ht.1 ht.2 _)) | (go_at_call 173;exact Calls.in_same (Vm _ _ _)))))
  exact wpQuiet_nil rfl
 refine eoq 11 (fun w3 F3=>?_)
 have E:=F2.trans F3
 clear F2 F3 c0 c1 c2 c3 c4 c5 c6 c7 c8 c9 c10 c11 c12 c13 c14 z
 go_wp2_with fail
 refine (Ref.jl _ p q s _ _ (hA.kept E)).mono ?_;rintro e w5 ⟨rfl,A5,F5⟩
 have E5:=(E.mono (T:=[p,q]) (by simp)).trans F5
 clear E F5
 go_wp2_with fail
 refine ql ⟨E5,?_⟩
 refine zr (by kernel_rfl) (fun w6 F6=>?_)
 have E6:=E5.then F6
 have A6:=A5.kept F6
 have h5:=h.re E6 (fun k hk hi=>by simp only [List.mem_cons,List.mem_append,List.not_mem_nil,or_false] at hk hi;rcases hi with rfl | rfl <;> rcases hk with h | h | h | h <;> contradiction) (Ob.kept h.o E6 (by simp;exact ⟨Ne.symm p1,Ne.symm q1⟩)) rfl rfl rfl rfl
 have D5:Fr (p :: q :: b :: bk :: (Bw++(Bl++iv.ownBlock.toList))) w w6:=E6.mono
 clear E5 E6 A5 F6 h hA
 obtain ⟨c0,c1,c2,c3,c4,c5,c6,c7,c8,c9,c10,c11,c12,c13,c14⟩:=zo h5.o
 have z:=h5.o.frozen
 go_wp2_with fail
 go_ret
 have S6:Fr [b] w6 (w6.setCell ⟨b,11,none⟩ (.int .i64 0)):=Fr.setCell _ (by simp)
 rw [<- HY.out]
 exact Stp.of rfl (Xn.inn (h5.re S6 (fun k hk hi=>by simp at hi;subst hi;simp only [List.mem_cons,List.mem_append] at hk;rcases hk with h | h | h | h <;> contradiction) (Ob.set h5.o (i:=11) (.int .i64 0)) rfl rfl rfl rfl)) (fun k hk=>.inl hk) (A6.kept S6 (by simpa using p1) (by simpa using q1)) (D5.trans (S6.mono))
theorem qcv (x:Sn) (s:St) (N:Nat) (hx:Y3 N x) (hl:x.line≠10/\x.line≠11/\x.line≠1/\x.line≠2/\x.line≠3/\x.line≠4) (b bk p q:Nat) (wp lp:Option Nat) (iv:Value) (Bw Bl:List Nat) (w:World) (h:Xn w x b bk wp lp iv Bw Bl) (hA:Rar w p q s) (hp:p∉b :: bk :: (Bw++(Bl++iv.ownBlock.toList))) (hq:q∉b :: bk :: (Bw++(Bl++iv.ownBlock.toList))) :
  Calls Tryz.prog 130 #[.pointer (some ⟨b,0,none⟩),.pointer (some ⟨p,0,none⟩)] w (Stp w (fun w' B'=>Kc w' B' b (x)) (b :: bk :: (Bw++(Bl++iv.ownBlock.toList))) p q (s) (decide (x.line=0))):=by
 generalize hy:(x)=y0
 have HY:=q9 hy
 clear hy
 have hlt:=h.inn.lt
 have hnd:=h.nd
 simp only [List.nodup_cons,List.mem_cons,List.mem_append,not_or] at hnd
 obtain ⟨⟨n1,n2,n3,n4⟩,⟨n5,n6,n7⟩,n8⟩:=hnd
 have hp':=hp
 have hq':=hq
 simp only [List.mem_cons,List.mem_append,not_or] at hp' hq'
 obtain ⟨p1,p2,p3,p4,p5⟩:=hp'
 obtain ⟨q1,q2,q3,q4,q5⟩:=hq'
 have HL:=q9 (qc hlt (qc h.nd (qc hp hq)))
 clear hlt hp hq
 obtain ⟨c0,c1,c2,c3,c4,c5,c6,c7,c8,c9,c10,c11,c12,c13,c14⟩:=zo h.o
 have z:=h.o.frozen
 obtain ⟨l1,l2,l3,l4,l5,l6⟩:=hl
 go_enter Tryz.func130,Tryz.ntmps130
 go_wp2_with fail
 go_ret
 rw [<- HY.out]
 exact Stp.of rfl h.inn (fun k hk=>.inl hk) hA (Fr.refl _ _)
theorem q93 (x:Sn) (s:St) (N:Nat) (hx:Y3 N x) (hl:x.line=10) (hh:¬ x.hi<x.lo) (hd:¬ (x.k.step s).1.line=0) (b bk p q:Nat) (wp lp:Option Nat) (iv:Value) (Bw Bl:List Nat) (w:World) (h:Xn w x b bk wp lp iv Bw Bl) (hA:Rar w p q s) (hp:p∉b :: bk :: (Bw++(Bl++iv.ownBlock.toList))) (hq:q∉b :: bk :: (Bw++(Bl++iv.ownBlock.toList))) :
  Calls Tryz.prog 130 #[.pointer (some ⟨b,0,none⟩),.pointer (some ⟨p,0,none⟩)] w (Stp w (fun w' B'=>Kc w' B' b ({ x with k:=(x.k.step s).1 })) (b :: bk :: (Bw++(Bl++iv.ownBlock.toList))) p q ((x.k.step s).2) (false)):=by
 generalize hy:({ x with k:=(x.k.step s).1 })=y0
 have HY:=q9 hy
 clear hy
 have hlt:=h.inn.lt
 have hnd:=h.nd
 simp only [List.nodup_cons,List.mem_cons,List.mem_append,not_or] at hnd
 obtain ⟨⟨n1,n2,n3,n4⟩,⟨n5,n6,n7⟩,n8⟩:=hnd
 have hp':=hp
 have hq':=hq
 simp only [List.mem_cons,List.mem_append,not_or] at hp' hq'
 obtain ⟨p1,p2,p3,p4,p5⟩:=hp'
 obtain ⟨q1,q2,q3,q4,q5⟩:=hq'
 have HL:=q9 (qc hlt (qc h.nd (qc hp hq)))
 clear hlt hp hq
 obtain ⟨c0,c1,c2,c3,c4,c5,c6,c7,c8,c9,c10,c11,c12,c13,c14⟩:=zo h.o
 have z:=h.o.frozen
 go_enter Tryz.func130,Tryz.ntmps130
 go_wp2_with fail
 have g1:decide (x.lo>x.hi)=false:=by simpa using hh
 have k6:=qb c6
 have k7:=qb c7
 refine wiq ?_
 repeat (go_big_quiet_step (fail))
 refine wpQuiet_nil ?_
 intro w4 F4
 have h4:=h.re F4 (by simp) (Ob.up h.o F4) rfl rfl rfl rfl
 have A4:=hA.kept F4
 clear k6 k7 c0 c1 c2 c3 c4 c5 c6 c7 c8 c9 c10 c11 c12 c13 c14 z h hA
 obtain ⟨c0,c1,c2,c3,c4,c5,c6,c7,c8,c9,c10,c11,c12,c13,c14⟩:=zo h4.o
 go_wp2_with fail
 refine (Kq x.k (by rw [hx.kc];exact hx.c) (by rw [hx.kt];exact hx.t0) bk p q s w4 h4.k A4 (Ne.symm p2) (Ne.symm q2)).mono ?_;rintro e w5 ⟨rfl,k5,A5,F5⟩
 generalize hyk:(x.k.step s).1=yk at *
 generalize hys:(x.k.step s).2=ys at *
 have h5:=h4.rek F5 (fun k hk hi=>by simp only [List.mem_cons,List.mem_append,List.not_mem_nil,or_false] at hk hi;rcases hi with rfl | rfl | rfl <;> rcases hk with h | h | h | h <;> first | contradiction | exact absurd h (Ne.symm (by assumption)) | exact absurd h.symm (by assumption)) k5
 have D5:Fr (p :: q :: b :: bk :: (Bw++(Bl++iv.ownBlock.toList))) w w5:=(F4.mono).trans (F5.mono (by intro k hk;simp at hk;rcases hk with rfl | rfl | rfl <;> simp))
 have HKS:=q9 (qc hyk hys)
 have HW:=q9 (qh F4.size F5.size)
 clear hyk hys c0 c1 c2 c3 c4 c5 c6 c7 c8 c9 c10 c11 c12 c13 c14 h4 A4 k5 F4 F5
 have g2:decide (yk.line=0)=false:=by simpa using hd
 rw [g2]
 obtain ⟨c0,c1,c2,c3,c4,c5,c6,c7,c8,c9,c10,c11,c12,c13,c14⟩:=zo h5.o
 go_wp2_with fail
 go_ret
 rw [<- HY.out,HKS.out.2]
 exact Stp.of rfl h5.inn (fun k hk=>.inl hk) A5 D5
theorem q9b (x:Sn) (s:St) (N:Nat) (hx:Y3 N x) (hl:x.line=10) (hh:¬ x.hi<x.lo) (hd:(x.k.step s).1.line=0) (b bk p q:Nat) (wp lp:Option Nat) (iv:Value) (Bw Bl:List Nat) (w:World) (h:Xn w x b bk wp lp iv Bw Bl) (hA:Rar w p q s) (hp:p∉b :: bk :: (Bw++(Bl++iv.ownBlock.toList))) (hq:q∉b :: bk :: (Bw++(Bl++iv.ownBlock.toList))) :
  Calls Tryz.prog 130 #[.pointer (some ⟨b,0,none⟩),.pointer (some ⟨p,0,none⟩)] w (Stp w (fun w' B'=>Kc w' B' b ({ x with k:=(x.k.step s).1,w:=some (Wk.new x.c x.lo),line:=if (x.k.step s).1.e=0 then 11 else 0 })) (b :: bk :: (Bw++(Bl++iv.ownBlock.toList))) p q ((x.k.step s).2) (decide (¬ (x.k.step s).1.e=0))):=by
 generalize hy:({ x with k:=(x.k.step s).1,w:=some (Wk.new x.c x.lo),line:=if (x.k.step s).1.e=0 then 11 else 0 })=y0
 have HY:=q9 hy
 clear hy
 have hlt:=h.inn.lt
 have hnd:=h.nd
 simp only [List.nodup_cons,List.mem_cons,List.mem_append,not_or] at hnd
 obtain ⟨⟨n1,n2,n3,n4⟩,⟨n5,n6,n7⟩,n8⟩:=hnd
 have hp':=hp
 have hq':=hq
 simp only [List.mem_cons,List.mem_append,not_or] at hp' hq'
 obtain ⟨p1,p2,p3,p4,p5⟩:=hp'
 obtain ⟨q1,q2,q3,q4,q5⟩:=hq'
 have HL:=q9 (qc hlt (qc h.nd (qc hp hq)))
 clear hlt hp hq
 obtain ⟨c0,c1,c2,c3,c4,c5,c6,c7,c8,c9,c10,c11,c12,c13,c14⟩:=zo h.o
 have z:=h.o.frozen
 go_enter Tryz.func130,Tryz.ntmps130
 go_wp2_with fail
 have g1:decide (x.lo>x.hi)=false:=by simpa using hh
 have k6:=qb c6
 have k7:=qb c7
 refine wiq ?_
 repeat (go_big_quiet_step (fail))
 refine wpQuiet_nil ?_
 intro w4 F4
 have h4:=h.re F4 (by simp) (Ob.up h.o F4) rfl rfl rfl rfl
 have A4:=hA.kept F4
 clear k6 k7 c0 c1 c2 c3 c4 c5 c6 c7 c8 c9 c10 c11 c12 c13 c14 z h hA
 obtain ⟨c0,c1,c2,c3,c4,c5,c6,c7,c8,c9,c10,c11,c12,c13,c14⟩:=zo h4.o
 go_wp2_with fail
 refine (Kq x.k (by rw [hx.kc];exact hx.c) (by rw [hx.kt];exact hx.t0) bk p q s w4 h4.k A4 (Ne.symm p2) (Ne.symm q2)).mono ?_;rintro e w5 ⟨rfl,k5,A5,F5⟩
 generalize hyk:(x.k.step s).1=yk at *
 generalize hys:(x.k.step s).2=ys at *
 have h5:=h4.rek F5 (fun k hk hi=>by simp only [List.mem_cons,List.mem_append,List.not_mem_nil,or_false] at hk hi;rcases hi with rfl | rfl | rfl <;> rcases hk with h | h | h | h <;> first | contradiction | exact absurd h (Ne.symm (by assumption)) | exact absurd h.symm (by assumption)) k5
 have D5:Fr (p :: q :: b :: bk :: (Bw++(Bl++iv.ownBlock.toList))) w w5:=(F4.mono).trans (F5.mono (by intro k hk;simp at hk;rcases hk with rfl | rfl | rfl <;> simp))
 have HKS:=q9 (qc hyk hys)
 have HW:=q9 (qh F4.size F5.size)
 clear hyk hys c0 c1 c2 c3 c4 c5 c6 c7 c8 c9 c10 c11 c12 c13 c14 h4 A4 k5 F4 F5
 have g2:decide (yk.line=0)=true:=by simpa using hd
 rw [g2]
 go_wp2_with fail
 refine qo (by kernel_rfl) ?_
 refine yh 1 rfl (by kernel_rfl) (by kernel_rfl) (by kernel_rfl) rfl (fun _ _ d _ _ h=>by cases d <;> exact h) ?_
 go_frame
 refine z6 [] w5 #[true,true,true,true,true,true,true,true,true,true,true,false,false,false,false,false,false] 10 6 rfl ?_
 refine yx [true,false,true,true,true,true,true,true,true,true,false,false,false,false,false,false,false] 1 (n:=154) (listed':=#[true,true,true,true,true,true,true,true,true,true,false,false,false,false,false,false,false]) rfl (by kernel_rfl) (by kernel_rfl) (by kernel_rfl) (by kernel_rfl) rfl (by kernel_rfl) (fun _ _ d _ _ h=>by cases d <;> exact h) ((Fr.refl _ w5).drew) ?_
 apply qg
 refine ⟨fun wf Ff=>?_,?_⟩
 ·obtain ⟨c0,c1,c2,c3,c4,c5,c6,c7,c8,c9,c10,c11,c12,c13,c14⟩:=zo (Ob.up h5.o Ff)
  have j0:=qb c0
  have j1:=qb c1
  have j2:=qb c2
  have j3:=qb c3
  have j6:=qb c6
  clear c0 c1 c2 c3 c4 c5 c6 c7 c8 c9 c10 c11 c12 c13 c14
  simp only [sel]
  repeat (go_big_quiet_step (fail))
  exact wpQuiet_nil rfl
 refine loq 10 (fun w7 F7=>?_)
 have E:=((Fr.refl [] w5).drew.trans F7)
 clear F7
 go_wp2_with fail
 refine (Zo x.c x.lo w7).mono ?_;rintro e w8 ⟨bw,rfl,hbw,m1,F8⟩
 have hE:=E.size
 replace E:=E.trans F8
 clear F8
 go_wp2_with fail
 refine ql ⟨E,?_⟩
 refine qx (k:=11) rfl (by kernel_rfl) (fun w9 F9=>?_)
 replace E:=E.trans F9
 replace m1:Qy w9 bw (Wk.new x.c x.lo):=Ob.up m1 F9
 clear F9
 have o9:Ur w9 b { x with k:=yk } bk wp lp iv:=Ob.up h5.o E
 have k9:Yr w9 bk yk:=Ob.up h5.k E
 have A9:=A5.kept E
 have hb5:=Ob.lt h5.o
 have hbk5:=Ob.lt h5.k
 have nbw:bw≠b/\bw≠bk:=by constructor <;> omega
 obtain ⟨c0,c1,c2,c3,c4,c5,c6,c7,c8,c9,c10,c11,c12,c13,c14⟩:=zo o9
 have z:=o9.frozen
 have o10:Ur _ b { x with k:=yk,w:=some (Wk.new x.c x.lo),line:=11 } bk (some bw) lp iv:=Ob.set (Ob.set o9 (i:=11) (.int .i64 11)) (i:=9) (.pointer (some ⟨bw,0,none⟩))
 have k10:Yr _ bk yk:=Ob.other (Ob.other k9 (Ne.symm n1) (i:=11) (.int .i64 11)) (Ne.symm n1) (i:=9) (.pointer (some ⟨bw,0,none⟩))
 have m10:Qy _ bw (Wk.new x.c x.lo):=Ob.other (Ob.other m1 nbw.1 (i:=11) (.int .i64 11)) nbw.1 (i:=9) (.pointer (some ⟨bw,0,none⟩))
 have A10:=Rar.set (Rar.set A9 (Ne.symm p1) (Ne.symm q1) (i:=11) (.int .i64 11)) (Ne.symm p1) (Ne.symm q1) (i:=9) (.pointer (some ⟨bw,0,none⟩))
 have E10:=((E.mono (T:=[b]) (by simp)).setCell' (b:=b) (i:=11) (.int .i64 11) (by simp)).setCell' (b:=b) (i:=9) (.pointer (some ⟨bw,0,none⟩)) (by simp)
 have y9:=(yu k10).2.2.2.2.2.2.2.2.2
 have d8:=(zo o10).2.2.2.2.2.2.2.2.1
 have d11:=(zo o10).2.2.2.2.2.2.2.2.2.2.2.1
 have hlw:=HL.out.1
 have hw5:=HW.out
 have hnd5:(b :: bk :: ([bw]++(Bl++iv.ownBlock.toList))).Nodup:=Vf (A:=[b,bk]) (Y:=Bw) (Y':=[bw]) (n:=w.heap.size) HL.out.2.1 hlw (by simp) (by intro k hk;simp at hk;subst hk;exact .inr (by omega))
 have hmem:∀ k,k∈b :: bk :: ([bw]++(Bl++iv.ownBlock.toList))->k∈b :: bk :: (Bw++(Bl++iv.ownBlock.toList))\/w.heap.size<=k:=q1x (A:=[b,bk]) (Y:=Bw) (Y':=[bw]) (n:=w.heap.size) (by intro k hk;simp at hk;subst hk;exact .inr (by omega))
 have hL5:=h5.l.kept E10 (fun k hk hi=>by simp at hi;subst hi;exact n3 hk)
 have hS5:=h5.s.kept E10 (fun g hg hi=>by simp at hi;subst hi;exact n4 hg)
 have hG5:∀ g,g∈iv.ownBlock.toList->g<_:=fun g hg=>qj (h5.g g hg) E10.size
 have HP:=q9 (show Xn _ { x with k:=yk,w:=some (Wk.new x.c x.lo),line:=11 } b bk (some bw) lp iv [bw] Bl from ⟨o10,k10,⟨bw,rfl,m10,rfl⟩,hL5,hS5,hG5,hnd5⟩)
 have HM:=q9 hmem
 have HA10:=q9 A10
 have HD10:=q9 (D5.trans (E10.mono (T:=p :: q :: b :: bk :: (Bw++(Bl++iv.ownBlock.toList))) (by simp)))
 clear h5 k9 m1 A9 E m10 A10 E10 hL5 hS5 hG5 hnd5 hmem hlw D5 A5 k10
 by_cases e0:yk.e=0
 ·have g3:(yk.e != 0)=false:=by simpa using e0
  have hn:y0 = { x with k:=yk,w:=some (Wk.new x.c x.lo),line:=11 }:=by rw [<- HY.out,qf e0]
  have HE:=q9 e0
  clear e0
  go_wp2_with fail
  go_ret
  rw [HKS.out.1,HKS.out.2]
  exact Stp.of (by rw [show (!decide (yk.e=0))=false by have:=HE.out;simp [this]];rfl) HP.out.inn HM.out HA10.out HD10.out
 ·have g3:(yk.e != 0)=true:=by simpa using e0
  have hn:y0 = { x with k:=yk,w:=some (Wk.new x.c x.lo),line:=0 }:=by rw [<- HY.out,qd e0]
  have HE:=q9 e0
  clear e0
  have o11:Ur _ b { x with k:=yk,w:=some (Wk.new x.c x.lo),line:=0 } bk (some bw) lp iv:=Ob.set o10 (i:=11) (.int .i64 0)
  have d12:=(zo o11).2.2.2.2.2.2.2.2.2.2.2.1
  have z10:=o10.frozen
  have HO:=q9 o11
  clear o11
  go_wp2_with fail
  go_ret
  rw [HKS.out.1,HKS.out.2]
  have S6:=Fr.setCell (S:=[b]) (w:=((w9.setCell ⟨b,11,none⟩ (.int .i64 11)).setCell ⟨b,9,none⟩ (.pointer (some ⟨bw,0,none⟩)))) (b:=b) (i:=11) (.int .i64 0) (by simp)
  have nbb:=nbw.1
  exact Stp.of (by rw [show (!decide (yk.e=0))=true by have:=HE.out;simp [this]];rfl) (Xn.inn (HP.out.re S6 (fun k hk hi=>by simp at hi;subst hi;simp only [List.mem_cons,List.mem_append,List.not_mem_nil,or_false] at hk;rcases hk with h | h | h | h <;> first | contradiction | exact absurd h.symm nbb) HO.out rfl rfl rfl rfl)) HM.out (HA10.out.kept S6 (by simpa using p1) (by simpa using q1)) (HD10.out.trans (S6.mono))
theorem qbl (x:Sn) (s:St) (N:Nat) (hx:Y3 N x) (hl:x.line=11) (y:Wk) (hw:x.w=some y) (b bk p q:Nat) (wp lp:Option Nat) (iv:Value) (Bw Bl:List Nat) (w:World) (h:Xn w x b bk wp lp iv Bw Bl) (hA:Rar w p q s) (hp:p∉b :: bk :: (Bw++(Bl++iv.ownBlock.toList))) (hq:q∉b :: bk :: (Bw++(Bl++iv.ownBlock.toList))) :
  Calls Tryz.prog 130 #[.pointer (some ⟨b,0,none⟩),.pointer (some ⟨p,0,none⟩)] w (Stp w (fun w' B'=>Kc w' B' b (if (y.step s).1.line=0 then ({ x with w:=some (y.step s).1 }:Sn).chunk (y.step s).1.at_ else { x with w:=some (y.step s).1 })) (b :: bk :: (Bw++(Bl++iv.ownBlock.toList))) p q ((y.step s).2) (false)):=by
 generalize hy:(if (y.step s).1.line=0 then ({ x with w:=some (y.step s).1 }:Sn).chunk (y.step s).1.at_ else { x with w:=some (y.step s).1 })=y0
 have HY:=q9 hy
 clear hy
 have hlt:=h.inn.lt
 have hnd:=h.nd
 simp only [List.nodup_cons,List.mem_cons,List.mem_append,not_or] at hnd
 obtain ⟨⟨n1,n2,n3,n4⟩,⟨n5,n6,n7⟩,n8⟩:=hnd
 have hp':=hp
 have hq':=hq
 simp only [List.mem_cons,List.mem_append,not_or] at hp' hq'
 obtain ⟨p1,p2,p3,p4,p5⟩:=hp'
 obtain ⟨q1,q2,q3,q4,q5⟩:=hq'
 have HL:=q9 (qc hlt (qc h.nd (qc hp hq)))
 clear hlt hp hq
 obtain ⟨c0,c1,c2,c3,c4,c5,c6,c7,c8,c9,c10,c11,c12,c13,c14⟩:=zo h.o
 have z:=h.o.frozen
 obtain ⟨bw,rfl,hwk,rfl⟩:∃ bw,wp=some bw/\Qy w bw y/\Bw=[bw]:=by have:=h.ww;rw [hw] at this;exact this
 unfold xw at c9
 simp only at c9
 go_enter Tryz.func130,Tryz.ntmps130
 go_wp2_with fail
 have hyw:=hx.w y hw
 refine (Js y (by rw [hyw.1];exact hx.c) (by rw [hyw.2];exact hx.lo) bw p q s w hwk hA (fun e=>p3 (by simp [e])) (fun e=>q3 (by simp [e]))).mono ?_;rintro e w5 ⟨rfl,k5,A5,F5⟩
 generalize hyk:(y.step s).1=yk at *
 generalize hys:(y.step s).2=ys at *
 have nbw:¬ b=bw/\¬ bk=bw/\bw∉Bl/\bw∉iv.ownBlock.toList:=by
  simp only [List.mem_singleton] at n2 n5
  refine ⟨n2,n5,?_⟩
  have:=List.nodup_cons.1 n8
  simpa [List.mem_append,not_or] using this.1
 have h5:=h.rew F5 (fun k hk hi=>by simp only [List.mem_cons,List.mem_append,List.not_mem_nil,or_false] at hk hi;rcases hi with rfl | rfl | rfl <;> rcases hk with h | h | h | h <;> first | contradiction | exact nbw.1 h.symm | exact nbw.2.1 h.symm | exact nbw.2.2.1 h | exact nbw.2.2.2 h) k5
 have D5:Fr (p :: q :: b :: bk :: ([bw]++(Bl++iv.ownBlock.toList))) w w5:=F5.mono (by intro k hk;simp at hk;rcases hk with rfl | rfl | rfl <;> simp)
 have HKS:=q9 (qc hyk hys)
 have HW:=q9 F5.size
 clear hyk hys c0 c1 c2 c3 c4 c5 c6 c7 c8 c9 c10 c11 c12 c13 c14 z h hA hwk F5
 by_cases e0:yk.line=0
 ·have g2:decide (yk.line=0)=true:=by simpa using e0
  have hn:y0=({ x with w:=some yk }:Sn).chunk yk.at_:=by rw [<- HY.out,qf e0]
  have HN:=q9 hn
  rw [g2]
  clear hn e0
  obtain ⟨c0,c1,c2,c3,c4,c5,c6,c7,c8,c9,c10,c11,c12,c13,c14⟩:=zo h5.o
  unfold xw at c9
  simp only at c9
  have y9:=(xd k5).2.2.2.2.2.2.2.2.2
  go_wp2_with fail
  refine (Tj { x with w:=some yk } yk.at_ b bk p q (some bw) lp iv w5 h5.o h5.k).mono ?_;rintro e w6 ⟨bl,rfl,hbl,o6,m6,F6⟩
  have hw5:=HW.out
  have hlw:=HL.out.1
  have hnd6:(b :: bk :: ([bw]++([bl]++iv.ownBlock.toList))).Nodup:=Vf (A:=[b,bk,bw]) (Y:=Bl) (Y':=[bl]) (n:=w.heap.size) HL.out.2.1 hlw (by simp) (by intro k hk;simp at hk;subst hk;exact .inr (by omega))
  have hmem:∀ k,k∈b :: bk :: ([bw]++([bl]++iv.ownBlock.toList))->k∈b :: bk :: ([bw]++(Bl++iv.ownBlock.toList))\/w.heap.size<=k:=q1x (A:=[b,bk,bw]) (Y:=Bl) (Y':=[bl]) (n:=w.heap.size) (by intro k hk;simp at hk;subst hk;exact .inr (by omega))
  have HP:=q9 (show Xn w6 (({ x with w:=some yk }:Sn).chunk yk.at_) b bk (some bw) (some bl) iv [bw] [bl] from ⟨o6,Ob.kept h5.k F6 (by simp;exact Ne.symm n1),⟨bw,rfl,Ob.kept k5 F6 (by simp;exact Ne.symm nbw.1),rfl⟩,⟨bl,rfl,Rh.new m6⟩,h5.s.kept F6 (fun g hg hi=>by simp at hi;subst hi;exact n4 hg),fun g hg=>qj (h5.g g hg) F6.size,hnd6⟩)
  have HM:=q9 hmem
  have HA6:=q9 (A5.kept F6 (by simpa using p1) (by simpa using q1))
  have HD6:=q9 (D5.trans (F6.mono))
  clear c0 c1 c2 c3 c4 c5 c6 c7 c8 c9 c10 c11 c12 c13 c14 y9 h5 k5 A5 D5 F6 m6 hnd6 hmem hlw
  obtain ⟨c0,c1,c2,c3,c4,c5,c6,c7,c8,c9,c10,c11,c12,c13,c14⟩:=zo o6
  unfold Sn.chunk at c11
  simp only at c11
  go_wp2_with fail
  go_ret
  rw [HN.out,HKS.out.2]
  exact Stp.of rfl HP.out.inn HM.out HA6.out HD6.out
 ·have g2:decide (yk.line=0)=false:=by simpa using e0
  have hn:y0 = { x with w:=some yk }:=by rw [<- HY.out,qd e0]
  have HN:=q9 hn
  rw [g2]
  clear hn e0
  obtain ⟨c0,c1,c2,c3,c4,c5,c6,c7,c8,c9,c10,c11,c12,c13,c14⟩:=zo h5.o
  go_wp2_with fail
  go_ret
  rw [HN.out,HKS.out.2]
  exact Stp.of rfl h5.inn (fun k hk=>.inl hk) A5 D5
theorem qcf (x:Sn) (s:St) (N:Nat) (hx:Y3 N x) (hl:x.line=3) (b bk p q:Nat) (wp lp:Option Nat) (iv:Value) (Bw Bl:List Nat) (w:World) (h:Xn w x b bk wp lp iv Bw Bl) (hA:Rar w p q s) (hp:p∉b :: bk :: (Bw++(Bl++iv.ownBlock.toList))) (hq:q∉b :: bk :: (Bw++(Bl++iv.ownBlock.toList))) :
  Calls Tryz.prog 130 #[.pointer (some ⟨b,0,none⟩),.pointer (some ⟨p,0,none⟩)] w (Stp w (fun w' B'=>Kc w' B' b (if qq s.l (wrap64 x.n)<=x.hi then x.chunk x.n else { x with line:=4 })) (b :: bk :: (Bw++(Bl++iv.ownBlock.toList))) p q (s.load (wrap64 x.n)) (false)):=by
 generalize hy:(if qq s.l (wrap64 x.n)<=x.hi then x.chunk x.n else { x with line:=4 })=y0
 have HY:=q9 hy
 clear hy
 have hlt:=h.inn.lt
 have hnd:=h.nd
 simp only [List.nodup_cons,List.mem_cons,List.mem_append,not_or] at hnd
 obtain ⟨⟨n1,n2,n3,n4⟩,⟨n5,n6,n7⟩,n8⟩:=hnd
 have hp':=hp
 have hq':=hq
 simp only [List.mem_cons,List.mem_append,not_or] at hp' hq'
 obtain ⟨p1,p2,p3,p4,p5⟩:=hp'
 obtain ⟨q1,q2,q3,q4,q5⟩:=hq'
 have HL:=q9 (qc hlt (qc h.nd (qc hp hq)))
 clear hlt hp hq
 obtain ⟨c0,c1,c2,c3,c4,c5,c6,c7,c8,c9,c10,c11,c12,c13,c14⟩:=zo h.o
 have z:=h.o.frozen
 go_enter Tryz.func130,Tryz.ntmps130
 go_wp2_with fail
 have S1:Fr [b] w (w.setCell ⟨b,11,none⟩ (.int .i64 4)):=Fr.setCell _ (by simp)
 have h1:Xn (w.setCell ⟨b,11,none⟩ (.int .i64 4)) { x with line:=4 } b bk wp lp iv Bw Bl:=h.re S1 (fun k hk hi=>by simp at hi;subst hi;simp only [List.mem_cons,List.mem_append] at hk;rcases hk with h | h | h | h <;> contradiction) (Ob.set h.o (i:=11) (.int .i64 4)) rfl rfl rfl rfl
 have A1:=Rar.set hA (Ne.symm p1) (Ne.symm q1) (i:=11) (.int .i64 4)
 have D1:Fr (p :: q :: b :: bk :: (Bw++(Bl++iv.ownBlock.toList))) w (w.setCell ⟨b,11,none⟩ (.int .i64 4)):=S1.mono
 have HW:=q9 S1.size
 clear c0 c1 c2 c3 c4 c5 c6 c7 c8 c9 c10 c11 c12 c13 c14 z h hA S1
 generalize (w.setCell ⟨b,11,none⟩ (.int .i64 4))=w1 at *
 refine qy (by kernel_rfl) [p,q] (fun w2 F2=>?_)
 refine epq [true,true,true,true,true,true,false,true,true,true,true,false] 2 (F2.mono) ?_
 apply qg
 refine ⟨fun wf Ff=>?_,?_⟩
 ·obtain ⟨c0,c1,c2,c3,c4,c5,c6,c7,c8,c9,c10,c11,c12,c13,c14⟩:=zo (Ob.kept h1.o Ff (by simp;exact ⟨Ne.symm p1,Ne.symm q1⟩))
  have j7:=qb c7
  have j13:=qb c13
  clear c0 c1 c2 c3 c4 c5 c6 c7 c8 c9 c10 c11 c12 c13 c14
  simp only [sel]
  repeat (go_big_quiet_step (fail))
  exact wpQuiet_nil rfl
 refine eoq 6 (fun w3 F3=>?_)
 have E:=F2.trans F3
 clear F2 F3
 go_wp2_with fail
 refine (Ref.zi _ p q s _ (A1.kept E)).mono ?_;rintro e w5 ⟨rfl,A5,F5⟩
 have E5:=(E.mono (T:=[p,q]) (by simp)).trans F5
 clear E F5
 generalize hv:qq s.l (wrap64 x.n)=v at *
 have HV:=q9 hv
 clear hv
 go_wp2_with fail
 refine ql ⟨E5,?_⟩
 refine eoq 11 (fun w6 F6=>?_)
 have E6:=E5.then F6
 have A6:=A5.kept F6
 clear E5 F6 A5
 go_wp2_with fail
 refine ql ⟨E6,?_⟩
 refine zr (by kernel_rfl) (fun w7 F7=>?_)
 have E7:=E6.then F7
 have A7:=A6.kept F7
 clear E6 F7 A6
 have h5:=h1.re E7 (fun k hk hi=>by simp only [List.mem_cons,List.mem_append,List.not_mem_nil,or_false] at hk hi;rcases hi with rfl | rfl <;> rcases hk with h | h | h | h <;> contradiction) (Ob.kept h1.o E7 (by simp;exact ⟨Ne.symm p1,Ne.symm q1⟩)) rfl rfl rfl rfl
 have D5:Fr (p :: q :: b :: bk :: (Bw++(Bl++iv.ownBlock.toList))) w w7:=D1.trans (E7.mono)
 have HW7:=q9 (qh HW.out E7.size)
 clear h1 A1 D1 E7
 obtain ⟨c0,c1,c2,c3,c4,c5,c6,c7,c8,c9,c10,c11,c12,c13,c14⟩:=zo h5.o
 by_cases e0:v<=x.hi
 ·have g2:decide (v<=x.hi)=true:=by simpa using e0
  have hn:y0=({ x with line:=4 }:Sn).chunk x.n:=by rw [<- HY.out,qf e0];rfl
  have HN:=q9 hn
  clear hn e0
  go_wp2_with fail
  rotate_left
  ·exfalso;have:=of_decide_eq_true g2;omega
  refine (Tj { x with line:=4 } x.n b bk p q wp lp iv w7 h5.o h5.k).mono ?_;rintro e w6 ⟨bl,rfl,hbl,o6,m6,F6⟩
  have hw5:=HW7.out
  have hlw:=HL.out.1
  have hnd6:(b :: bk :: (Bw++([bl]++iv.ownBlock.toList))).Nodup:=Vf (A:=b :: bk :: Bw) (Y:=Bl) (Y':=[bl]) (n:=w.heap.size) HL.out.2.1 hlw (by simp) (by intro k hk;simp at hk;subst hk;exact .inr (by omega))
  have hmem:∀ k,k∈b :: bk :: (Bw++([bl]++iv.ownBlock.toList))->k∈b :: bk :: (Bw++(Bl++iv.ownBlock.toList))\/w.heap.size<=k:=q1x (A:=b :: bk :: Bw) (Y:=Bl) (Y':=[bl]) (n:=w.heap.size) (by intro k hk;simp at hk;subst hk;exact .inr (by omega))
  have HP:=q9 (show Xn w6 (({ x with line:=4 }:Sn).chunk x.n) b bk wp (some bl) iv Bw [bl] from ⟨o6,Ob.kept h5.k F6 (by simp;exact Ne.symm n1),h5.ww.kept F6 (fun k hk hi=>by simp at hi;subst hi;exact n2 hk),⟨bl,rfl,Rh.new m6⟩,h5.s.kept F6 (fun g hg hi=>by simp at hi;subst hi;exact n4 hg),fun g hg=>qj (h5.g g hg) F6.size,hnd6⟩)
  have HM:=q9 hmem
  have HA6:=q9 (A7.kept F6 (by simpa using p1) (by simpa using q1))
  have HD6:=q9 (D5.trans (F6.mono))
  clear c0 c1 c2 c3 c4 c5 c6 c7 c8 c9 c10 c11 c12 c13 c14 h5 A7 D5 F6 m6 hnd6 hmem hlw
  obtain ⟨c0,c1,c2,c3,c4,c5,c6,c7,c8,c9,c10,c11,c12,c13,c14⟩:=zo o6
  unfold Sn.chunk at c11
  simp only at c11
  go_wp2_with fail
  go_ret
  rw [HN.out]
  exact Stp.of rfl HP.out.inn HM.out HA6.out HD6.out
 ·have g2:decide (v<=x.hi)=false:=by simpa using e0
  have hn:y0 = { x with line:=4 }:=by rw [<- HY.out,qd e0]
  have HN:=q9 hn
  clear hn e0
  go_wp2_with fail
  ·exfalso;have:=of_decide_eq_false g2;omega
  go_ret
  rw [HN.out]
  exact Stp.of rfl h5.inn (fun k hk=>.inl hk) A7 D5
theorem qd5 (x:Sn) (s:St) (N:Nat) (hx:Y3 N x) (hl:x.line=1) (y:Lok) (hly:x.l=some y) (hN:N<=40000) (b bk p q:Nat) (wp lp:Option Nat) (iv:Value) (Bw Bl:List Nat) (w:World) (h:Xn w x b bk wp lp iv Bw Bl) (hA:Rar w p q s) (hp:p∉b :: bk :: (Bw++(Bl++iv.ownBlock.toList))) (hq:q∉b :: bk :: (Bw++(Bl++iv.ownBlock.toList))) :
  Calls Tryz.prog 130 #[.pointer (some ⟨b,0,none⟩),.pointer (some ⟨p,0,none⟩)] w (Stp w (fun w' B'=>Kc w' B' b (if (y.step s).1.line=0 then { x with l:=some (y.step s).1,items:=(y.step s).1.l.foldl Zx x.items,line:=2 } else { x with l:=some (y.step s).1 })) (b :: bk :: (Bw++(Bl++iv.ownBlock.toList))) p q ((y.step s).2) (false)):=by
 generalize hy:(if (y.step s).1.line=0 then { x with l:=some (y.step s).1,items:=(y.step s).1.l.foldl Zx x.items,line:=2 } else { x with l:=some (y.step s).1 })=y0
 have HY:=q9 hy
 clear hy
 have hlt:=h.inn.lt
 have hnd:=h.nd
 simp only [List.nodup_cons,List.mem_cons,List.mem_append,not_or] at hnd
 obtain ⟨⟨n1,n2,n3,n4⟩,⟨n5,n6,n7⟩,n8⟩:=hnd
 have hp':=hp
 have hq':=hq
 simp only [List.mem_cons,List.mem_append,not_or] at hp' hq'
 obtain ⟨p1,p2,p3,p4,p5⟩:=hp'
 obtain ⟨q1,q2,q3,q4,q5⟩:=hq'
 have HL:=q9 (qc hlt (qc h.nd (qc hp hq)))
 clear hlt hp hq
 obtain ⟨c0,c1,c2,c3,c4,c5,c6,c7,c8,c9,c10,c11,c12,c13,c14⟩:=zo h.o
 have z:=h.o.frozen
 obtain ⟨bl,rfl,hlk⟩:∃ bl,lp=some bl/\Rh w Bl bl y:=by have:=h.l;rw [hly] at this;exact this
 unfold xw at c10
 simp only at c10
 go_enter Tryz.func130,Tryz.ntmps130
 go_wp2_with fail
 have hyo:=hx.l y hly
 have hyo2:=hyo.step s
 refine (q5t y hyo Bl bl p q s w hlk hA p4 q4).mono ?_;rintro e w5 ⟨rfl,⟨B3,k1,k2⟩,A5,F5⟩
 generalize hyk:(y.step s).1=yk at *
 generalize hys:(y.step s).2=ys at *
 have hlw:=HL.out.1
 have hnd5:(b :: bk :: (Bw++(B3++iv.ownBlock.toList))).Nodup:=Vf (A:=b :: bk :: Bw) (Y:=Bl) (Y':=B3) (n:=w.heap.size) HL.out.2.1 hlw k1.nd k2
 have HM:=q9 (show ∀ k,k∈b :: bk :: (Bw++(B3++iv.ownBlock.toList))->k∈b :: bk :: (Bw++(Bl++iv.ownBlock.toList))\/w.heap.size<=k from q1x (A:=b :: bk :: Bw) (Y:=Bl) (Y':=B3) (n:=w.heap.size) k2)
 have hdis:∀ k,k∈Bw->k∉Bl:=fun k hk hi=>(List.nodup_append.1 n8).2.2 k hk k (List.mem_append.2 (.inl hi)) rfl
 have hdis2:∀ k,k∈iv.ownBlock.toList->k∉Bl:=fun k hk hi=>(List.nodup_append.1 (List.nodup_append.1 n8).2.1).2.2 k hi k hk rfl
 have h5:Xn w5 { x with l:=some yk } b bk wp (some bl) iv Bw B3:=⟨Ob.kept h.o F5 (by simp only [List.mem_cons,not_or];exact ⟨Ne.symm p1,Ne.symm q1,n3⟩),Ob.kept h.k F5 (by simp only [List.mem_cons,not_or];exact ⟨Ne.symm p2,Ne.symm q2,n6⟩),h.ww.kept F5 (fun k hk=>by simp only [List.mem_cons,not_or];exact ⟨fun e=>p3 (e ▸ hk),fun e=>q3 (e ▸ hk),hdis k hk⟩),⟨bl,rfl,k1⟩,h.s.kept F5 (fun k hk=>by simp only [List.mem_cons,not_or];exact ⟨fun e=>p5 (e ▸ hk),fun e=>q5 (e ▸ hk),hdis2 k hk⟩),fun g hg=>qj (h.g g hg) F5.size,hnd5⟩
 have D5:Fr (p :: q :: b :: bk :: (Bw++(Bl++iv.ownBlock.toList))) w w5:=F5.mono (by intro k hk;simp only [List.mem_cons,List.mem_append] at hk ⊢;rcases hk with h | h | h <;> simp [h])
 have HKS:=q9 (qc hyk hys)
 have HW:=q9 F5.size
 clear hyk hys c0 c1 c2 c3 c4 c5 c6 c7 c8 c9 c10 c11 c12 c13 c14 z h hA hlk F5 hdis hdis2 hlw
 by_cases e0:yk.line=0
 ·have g2:decide (yk.line=0)=true:=by simpa using e0
  have hn:y0 = { x with l:=some yk,items:=yk.l.foldl Zx x.items,line:=2 }:=by rw [<- HY.out,qf e0]
  have HN:=q9 hn
  rw [g2]
  clear hn e0
  obtain ⟨lv,l1,l2,l3,rfl,l5⟩:=k1
  have hnn:=hnd5
  simp only [List.nodup_cons,List.mem_cons,List.mem_append,not_or] at hnn
  go_wp2_with fail
  refine (q5a { x with l:=some yk } yk b bk bl wp iv lv w5 h5.o l1 l2 h5.s (by have:=hyo2.len;have:=hyo2.i1;omega) (by have:=hx.n;show x.items.length<=800000;omega) hnn.1.2.2.1.1 hnn.1.2.2.1.2 n4).mono ?_;rintro e w6 ⟨iv',rfl,o6,s6,d6,F6⟩
  have hw5:=HW.out
  have hlb:∀ k,k∈b :: bk :: (Bw++((bl :: lv.ownBlock.toList)++iv.ownBlock.toList))->k<w5.heap.size:=h5.inn.lt
  have own6:∀ g,g∈iv'.ownBlock.toList->g∈iv.ownBlock.toList\/w5.heap.size<=g:=fun g hg=>by
   rcases d6 with d | ⟨-,d⟩
   ·rw [d] at hg;exact .inl hg
   ·exact .inr (d g hg)
  have lt6:∀ g,g∈iv'.ownBlock.toList->g<w6.heap.size:=fun g hg=>by
   rcases d6 with d | ⟨hne,-⟩
   ·rw [d] at hg;exact qj (h5.g g hg) F6.size
   ·exact Q7 s6 hne g hg
  have hnd6:(b :: bk :: (Bw++((bl :: lv.ownBlock.toList)++iv'.ownBlock.toList))).Nodup:=by
   have:=Vf (A:=b :: bk :: (Bw++(bl :: lv.ownBlock.toList))) (Y:=iv.ownBlock.toList) (Z:=[]) (Y':=iv'.ownBlock.toList) (n:=w5.heap.size) (by simpa [List.append_assoc] using hnd5) (by simpa [List.append_assoc] using hlb) (q9u _) own6
   simpa [List.append_assoc] using this
  have hmem:∀ k,k∈b :: bk :: (Bw++((bl :: lv.ownBlock.toList)++iv'.ownBlock.toList))->k∈b :: bk :: (Bw++(Bl++iv.ownBlock.toList))\/w.heap.size<=k:=by
   intro k hk
   by_cases hko:k∈iv'.ownBlock.toList
   ·rcases own6 k hko with h | h
    ·exact .inl (by simp only [List.mem_cons,List.mem_append];simp [h])
    ·exact .inr (by omega)
   ·refine HM.out k ?_
    simp only [List.mem_cons,List.mem_append] at hk ⊢
    rcases hk with h | h | h | (h | h) | h <;> first | exact absurd h hko | simp [h]
  have hbl:¬ b=bl:=hnn.1.2.2.1.1
  have hblo:b∉lv.ownBlock.toList:=hnn.1.2.2.1.2
  have h6:Xn w6 { x with l:=some yk,items:=yk.l.foldl Zx x.items } b bk wp (some bl) iv' Bw (bl :: lv.ownBlock.toList):=⟨o6,Ob.kept h5.k F6 (by simp;exact Ne.symm n1),h5.ww.kept F6 (fun k hk hi=>by simp at hi;subst hi;exact n2 hk),h5.l.kept F6 (fun k hk hi=>by simp at hi;subst hi;simp only [List.mem_cons] at hk;rcases hk with h | h;exact hbl h;exact hblo h),s6,lt6,hnd6⟩
  have HM6:=q9 hmem
  have A6:=A5.kept F6 (by simpa using p1) (by simpa using q1)
  have D6:=D5.trans (F6.mono (T:=p :: q :: b :: bk :: (Bw++(Bl++iv.ownBlock.toList))) (by simp))
  have nb6:b∉bk :: (Bw++((bl :: lv.ownBlock.toList)++iv'.ownBlock.toList)):=(List.nodup_cons.1 hnd6).1
  clear h5 A5 D5 F6 hnd5 hnd6 hmem own6 lt6 hlb hnn l1 l2 l3 l5 d6 s6
  obtain ⟨c0,c1,c2,c3,c4,c5,c6,c7,c8,c9,c10,c11,c12,c13,c14⟩:=zo h6.o
  have z:=h6.o.frozen
  go_wp2_with fail
  go_ret
  rw [HN.out,HKS.out.2]
  have S6:Fr [b] w6 (w6.setCell ⟨b,11,none⟩ (.int .i64 2)):=Fr.setCell _ (by simp)
  exact Stp.of rfl (Xn.inn (h6.re S6 (fun k hk hi=>by simp at hi;subst hi;exact nb6 hk) (Ob.set h6.o (i:=11) (.int .i64 2)) rfl rfl rfl rfl)) HM6.out (A6.kept S6 (by simpa using p1) (by simpa using q1)) (D6.trans (S6.mono))
 ·have g2:decide (yk.line=0)=false:=by simpa using e0
  have hn:y0 = { x with l:=some yk }:=by rw [<- HY.out,qd e0]
  have HN:=q9 hn
  rw [g2]
  clear hn e0
  obtain ⟨c0,c1,c2,c3,c4,c5,c6,c7,c8,c9,c10,c11,c12,c13,c14⟩:=zo h5.o
  go_wp2_with fail
  go_ret
  rw [HN.out,HKS.out.2]
  exact Stp.of rfl h5.inn HM.out A5 D5
theorem q62 (x:Sn) (N:Nat) (hx:Y3 N x) (hN:N<=40000) (B:List Nat) (b p q:Nat) (s:St) (w:World) (h:Kc w B b x) (hA:Rar w p q s) (hp:p∉B) (hq:q∉B) :
  Calls Tryz.prog 130 #[.pointer (some ⟨b,0,none⟩),.pointer (some ⟨p,0,none⟩)] w (Stp w (fun w' B'=>Kc w' B' b (x.step s).1) B p q (x.step s).2 (decide ((x.step s).1.line=0))):=by
 obtain ⟨bk,wp,lp,iv,Bw,Bl,hpt,rfl⟩:=h.pt
 by_cases l10:x.line=10
 ·by_cases hh:x.hi<x.lo
  ·have e:x.step s=({ x with line:=0 },s):=by unfold Sn.step;rw [qf l10,qf hh]
   rw [e];exact q9a x s N hx l10 hh b bk p q wp lp iv Bw Bl w hpt hA hp hq
  ·by_cases hd:(x.k.step s).1.line=0
   ·have e:x.step s=({ x with k:=(x.k.step s).1,w:=some (Wk.new x.c x.lo),line:=if (x.k.step s).1.e=0 then 11 else 0 },(x.k.step s).2):=by unfold Sn.step;rw [qf l10,qd hh,qf hd]
    have e2:decide ((if (x.k.step s).1.e=0 then (11:Int) else 0)=0)=decide (¬ (x.k.step s).1.e=0):=by split <;> rename_i h <;> simp [h]
    rw [e];show Calls _ _ _ _ (Stp _ _ _ _ _ _ (decide ((if (x.k.step s).1.e=0 then (11:Int) else 0)=0)));rw [e2];exact q9b x s N hx l10 hh hd b bk p q wp lp iv Bw Bl w hpt hA hp hq
   ·have e:x.step s=({ x with k:=(x.k.step s).1 },(x.k.step s).2):=by unfold Sn.step;rw [qf l10,qd hh,qd hd]
    rw [e];show Calls _ _ _ _ (Stp _ _ _ _ _ _ (decide (x.line=0)));rw [show decide (x.line=0)=false by simp [l10]];exact q93 x s N hx l10 hh hd b bk p q wp lp iv Bw Bl w hpt hA hp hq
 ·by_cases l11:x.line=11
  ·obtain ⟨y,hy⟩:∃ y,x.w=some y:=by cases hw:x.w with | none=>exact absurd hw (hx.w1 l11) | some y=>exact ⟨y,rfl⟩
   have e:x.step s=(if (y.step s).1.line=0 then ({ x with w:=some (y.step s).1 }:Sn).chunk (y.step s).1.at_ else { x with w:=some (y.step s).1 },(y.step s).2):=by unfold Sn.step;rw [qd l10,qf l11,hy]
   have e2:(if (y.step s).1.line=0 then ({ x with w:=some (y.step s).1 }:Sn).chunk (y.step s).1.at_ else { x with w:=some (y.step s).1 }).line≠0:=by split;simp [Sn.chunk];simp [l11]
   rw [e];show Calls _ _ _ _ (Stp _ _ _ _ _ _ (decide (_=0)));rw [decide_eq_false e2];exact qbl x s N hx l11 y hy b bk p q wp lp iv Bw Bl w hpt hA hp hq
  ·by_cases l1:x.line=1
   ·obtain ⟨y,hy⟩:∃ y,x.l=some y:=by cases hw:x.l with | none=>exact absurd hw (hx.l1 l1) | some y=>exact ⟨y,rfl⟩
    have e:x.step s=(if (y.step s).1.line=0 then { x with l:=some (y.step s).1,items:=(y.step s).1.l.foldl Zx x.items,line:=2 } else { x with l:=some (y.step s).1 },(y.step s).2):=by unfold Sn.step;rw [qd l10,qd l11,qf l1,hy]
    have e2:(if (y.step s).1.line=0 then ({ x with l:=some (y.step s).1,items:=(y.step s).1.l.foldl Zx x.items,line:=2 }:Sn) else { x with l:=some (y.step s).1 }).line≠0:=by split;simp;simp [l1]
    rw [e];show Calls _ _ _ _ (Stp _ _ _ _ _ _ (decide (_=0)));rw [decide_eq_false e2];exact qd5 x s N hx l1 y hy hN b bk p q wp lp iv Bw Bl w hpt hA hp hq
   ·by_cases l2:x.line=2
    ·have e:x.step s=({ x with n:=atW (qq s.l (wrap64 (x.at_+2))),line:=if atW (qq s.l (wrap64 (x.at_+2)))=0 then 4 else 3 },s.load (wrap64 (x.at_+2))):=by unfold Sn.step;rw [qd l10,qd l11,qd l1,qf l2]
     have e2:(if atW (qq s.l (wrap64 (x.at_+2)))=0 then (4:Int) else 3)≠0:=by split <;> simp
     rw [e];show Calls _ _ _ _ (Stp _ _ _ _ _ _ (decide (_=0)));rw [decide_eq_false e2];exact qbx x s N hx l2 b bk p q wp lp iv Bw Bl w hpt hA hp hq
    ·by_cases l3:x.line=3
     ·have e:x.step s=(if qq s.l (wrap64 x.n)<=x.hi then x.chunk x.n else { x with line:=4 },s.load (wrap64 x.n)):=by unfold Sn.step;rw [qd l10,qd l11,qd l1,qd l2,qf l3]
      have e2:(if qq s.l (wrap64 x.n)<=x.hi then x.chunk x.n else { x with line:=4 }).line≠0:=by split;simp [Sn.chunk];simp
      rw [e];show Calls _ _ _ _ (Stp _ _ _ _ _ _ (decide (_=0)));rw [decide_eq_false e2];exact qcf x s N hx l3 b bk p q wp lp iv Bw Bl w hpt hA hp hq
     ·by_cases l4:x.line=4
      ·have e:x.step s=({ x with line:=0 },s.store (q9x x.t) (Q8 x.seq 0)):=by unfold Sn.step;rw [qd l10,qd l11,qd l1,qd l2,qd l3,qf l4]
       rw [e];exact qcl x s N hx l4 b bk p q wp lp iv Bw Bl w hpt hA hp hq
      ·have e:x.step s=(x,s):=by unfold Sn.step;rw [qd l10,qd l11,qd l1,qd l2,qd l3,qd l4]
       rw [e];exact qcv x s N hx ⟨l10,l11,l1,l2,l3,l4⟩ b bk p q wp lp iv Bw Bl w hpt hA hp hq
end Go.Proofs.YtppajakfaomkaaaGreatDoor.Mx
