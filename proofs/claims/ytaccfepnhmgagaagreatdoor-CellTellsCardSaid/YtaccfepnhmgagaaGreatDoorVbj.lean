/- Parts. -/
import Derived.Test.YtaccfepnhmgagaaGreatDoorVax
import Derived.Test.YtaccfepnhmgagaaGreatDoorVbe
set_option linter.unusedVariables false
set_option linter.unusedSimpArgs false
set_option maxRecDepth 100000
set_option maxHeartbeats 12800000
namespace Go.Proofs.YtaccfepnhmgagaaGreatDoor.Mx
open Go.RowKit Ar Ref Og Mp
def I64 (v:Int):Prop:=-9223372036854775808<=v/\v<=9223372036854775807
def Zp (l:List Int):Prop:=∀ p,I64 (qw l p)
theorem I64.of {v:Int} (h0:-1000000000000000000<=v) (h1:v<=1000000000000000000):I64 v:=⟨by omega,by omega⟩
theorem qd6 (n:Int):I64 (wrap64 n):=by unfold I64 wrap64;omega
theorem qbb {v:Int} (h:I64 v):I64 (atW v):=by unfold I64 atW at *;omega
theorem Wq (v a b:Int) (h:a<=b):a<=hd v a b/\hd v a b<=b:=by unfold hd;omega
theorem Je (v:Int):I64 (yc v):=by have:=Wq v 0 16777212 Li;unfold yc;exact .of Li Li
theorem Jc (s p:Int):I64 (wm s p):=by have:=Wq s 0 1073741824 Li;have:=Wq p 0 16777212 Li;unfold wm;exact .of Li Li
theorem q77 (d v:Int):I64 (Ja d v):=by have:=Wq d 0 1048576 Li;have:=Wq v (-1) 1048576 Li;unfold Ja;exact .of Li Li
theorem q6i (v:Int) (m:Bool):I64 (ji v m):=by have:=Wq v 0 1073741824 Li;unfold ji;split <;> exact .of Li Li
theorem or1_I (w:Int):I64 (or1 w):=by unfold or1 bits;simp only;rw [IntKind.wrap_i64];generalize (BitVec.toNat _:Nat)=n;unfold I64;omega
theorem jb:I64 0:=.of Li Li
theorem qdl {l:List Int} (h:Zp l) (p:Int):I64 (qw l p):=h p
theorem q64 {l:List Int} (h:Zp l) {v:Int} (hv:I64 v) (p:Int):Zp (yl l p v):=fun q=>by
 by_cases k:J8 l p=true
 ·have hk:0<=p/\p<(l.length:Int):=by unfold J8 at k;simpa using k
  obtain ⟨n,rfl⟩:=Int.eq_ofNat_of_zero_le hk.1;have e:yl l (n:Int) v=l.set n v:=by unfold yl;rw [qf k,Int.toNat_natCast]
  have:=h q;rw [e];unfold qw J8 nth at this ⊢;rw [List.length_set];split
  ·rename_i q1;rw [qf q1] at this;have hq:0<=q/\q<(l.length:Int):=by simpa using q1
   by_cases e2:n=q.toNat
   ·subst e2;rw [List.getD_eq_getElem?_getD,List.getElem?_set_self Li];exact hv
   ·rw [List.getD_eq_getElem?_getD,List.getElem?_set_ne e2,<- List.getD_eq_getElem?_getD];exact this
  ·exact jb
 ·have e:yl l p v=l:=by unfold yl;rw [qd k]
  rw [e];exact h q
section
variable {s:St}
theorem Yy (h:Zp s.l) (p:Int):Zp (s.load p).l:=h
theorem Xh (h:Zp s.l) {v:Int} (hv:I64 v) (p:Int):Zp (s.store p v).l:=q64 h hv p
theorem Zi (h:Zp s.l) {v:Int} (hv:I64 v) (p o:Int):Zp (s.swap p o v).l:=by
 unfold St.swap;split
 ·exact q64 h hv p
 ·exact h
theorem q92 (h:Zp s.l) (p v:Int):Zp (s.add p v).l:=q64 h (qd6 _) p
theorem qd9 (h:Zp s.l) (x:Lok):Zp (x.step s).2.l:=by unfold Lok.step Lok.act;(repeat' split) <;> (try dsimp only) <;> first | with_reducible exact h | with_reducible exact Yy h _ | with_reducible exact Zi h (Je _) _ _
theorem km_I (h:Zp s.l) (x:Km):Zp (x.step s).2.l:=by unfold Km.step Km.act;(repeat' split) <;> (try dsimp only) <;> first | with_reducible exact h | with_reducible exact Yy h _ | with_reducible exact Zi h (Jc _ _) _ _ | with_reducible exact Xh h (Jc _ _) _ | with_reducible exact q92 h _ _
theorem nd_I (h:Zp s.l) (x:Nd):Zp (x.step s).2.l:=by unfold Nd.step Nd.act;(repeat' split) <;> (try dsimp only) <;> first | with_reducible exact h | with_reducible exact Yy h _ | with_reducible exact Zi h (Jc _ _) _ _ | with_reducible exact q92 h _ _
theorem sl_I (h:Zp s.l) (x:Sl):Zp (x.step s).2.l:=by unfold Sl.step Sl.act;(repeat' split) <;> (try dsimp only) <;> first | with_reducible exact h | with_reducible exact Yy h _ | with_reducible exact Zi h (Je _) _ _ | with_reducible exact Zi h (.of Li Li) _ _ | with_reducible exact Xh h (.of Li Li) _
theorem qe8 (h:Zp s.l) (x:Wk):Zp (x.step s).2.l:=by unfold Wk.step;split <;> exact h
theorem gt_I (h:Zp s.l) (x:Gt):Zp (x.step s).2.l:=by unfold Gt.step;(repeat' split) <;> (try dsimp only) <;> first | with_reducible exact h | with_reducible exact qd9 h _ | with_reducible exact qe8 h _
theorem sn_I (h:Zp s.l) (x:Sn):Zp (x.step s).2.l:=by unfold Sn.step;(repeat' split) <;> (try dsimp only) <;> first | with_reducible exact h | with_reducible exact Yy h _ | with_reducible exact km_I h _ | with_reducible exact qd9 h _ | with_reducible exact qe8 h _ | with_reducible exact Xh h (Jc _ _) _
structure WkW (x:Wk):Prop where
 t:0<=x.c.t/\x.c.t<=8
 xx:I64 x.x
 cur:I64 x.cur
 n:I64 x.n
 at_:I64 x.at_
theorem WkW.new {c:Cf} (h:0<=c.t/\c.t<=8) (key:Int):WkW (Wk.new c key):=⟨h,jb,jb,jb,jb⟩
theorem qad {c:Cf} (h:0<=c.t/\c.t<=8):I64 (xn c):=by unfold xn;exact .of Li Li
theorem WkW.step (h:Zp s.l) {x:Wk} (hx:WkW x):WkW (x.step s).1/\(x.step s).1.c=x.c:=by
 have hp:=h x.looks;have hh:=qad hx.t;unfold Wk.step;split
 ·generalize qw s.l x.looks=v at *;have ha:=qbb hp;unfold Wk.next Wk.head Wk.ends;(repeat' split) <;> refine ⟨⟨hx.t,?_,?_,?_,?_⟩,rfl⟩ <;> first | with_reducible exact hp | with_reducible exact hh | with_reducible exact ha | with_reducible exact jb | with_reducible exact hx.xx | with_reducible exact hx.cur | with_reducible exact hx.n | with_reducible exact hx.at_
 ·exact ⟨hx,rfl⟩
structure ClW (x:Cl):Prop where
 key:I64 x.key
 data:I64 x.data
 chunk:I64 x.chunk
theorem ClW.step (h:Zp s.l) {x:Cl} (hx:ClW x):ClW (x.step s).1/\Zp (x.step s).2.l:=by
 unfold Cl.step;split
 ·refine ⟨?_,?_⟩
  ·unfold Cl.next;(repeat' split) <;> exact ⟨hx.key,hx.data,hx.chunk⟩
  ·unfold Cl.act;(repeat' split) <;> (try dsimp only) <;> first | with_reducible exact h | with_reducible exact Yy h _ | with_reducible exact q92 h _ _ | with_reducible exact Xh h hx.key _ | with_reducible exact Xh h hx.data _ | with_reducible exact Zi h (Je _) _ _ | with_reducible exact Zi h (.of Li Li) _ _
 ·exact ⟨hx,h⟩
structure LdW (x:Ld):Prop where
 chunk:I64 x.chunk
 l:I64 x.l
 n:I64 x.n
 w:I64 x.w
 after:I64 x.after
theorem LdW.new (c:Cf) {a:Int} (h:I64 a) (d:Bool):LdW (Ld.new c a d):=⟨h,jb,jb,jb,jb⟩
theorem LdW.alone {x:Ld} (hx:LdW x):LdW x.toAlone:=⟨hx.chunk,hx.l,hx.n,hx.w,hx.n⟩
theorem LdW.line {x:Ld} (hx:LdW x) (k:Int):LdW { x with line:=k }:=⟨hx.chunk,hx.l,hx.n,hx.w,hx.after⟩
theorem LdW.eight {x:Ld} (hx:LdW x):LdW x.eight:=by
 unfold Ld.eight;split
 ·exact LdW.alone (hx.line 8)
 ·exact hx.line 8
theorem Vy {α:Sort _} {P:α->Prop} {q:Prop} [Decidable q] {a b:α} (h1:P a) (h2:P b):P (if q then a else b):=by
 by_cases h:q
 ·rw [qf h];exact h1
 ·rw [qd h];exact h2
theorem LdW.next {x:Ld} (hx:LdW x) {v:Int} (hp:I64 v):LdW (x.next v):=by
 have ha:=qbb hp
 exact Vy (hx.line 2) (Vy ⟨hx.chunk,hp,hx.n,hx.w,hx.after⟩
  (Vy (Vy ⟨hx.chunk,hx.l,ha,hp,hx.after⟩ ⟨hx.chunk,hx.l,hx.n,hp,hx.after⟩)
  (Vy (hx.line 3) (Vy (Vy ⟨hx.chunk,hx.l,hx.n,hx.w,hx.after⟩ (LdW.eight ⟨hx.chunk,hx.l,hx.n,hx.w,hx.after⟩))
  (Vy ⟨hx.chunk,hx.l,hx.n,hx.w,hx.after⟩ (Vy (LdW.eight ⟨hx.chunk,hx.l,hx.n,hx.w,hx.after⟩)
  (Vy (hx.line 9) (Vy (Vy (hx.line 10) (LdW.alone (hx.line 10)))
  (Vy (Vy ⟨hx.chunk,hx.l,hx.n,hp,ha⟩ ⟨hx.chunk,hx.l,hx.n,hp,hx.after⟩) (hx.line 10))))))))))
theorem LdW.step (h:Zp s.l) {x:Ld} (hx:LdW x):LdW (x.step s).1/\Zp (x.step s).2.l:=by
 have hp:I64 (x.told s):=by unfold Ld.told;(repeat' split) <;> exact h _
 unfold Ld.step;split
 ·refine ⟨?_,?_⟩
  ·exact hx.next hp
  ·have hw:I64 x.who:=by unfold Ld.who;split;exact hx.n;exact .of Li Li
   unfold Ld.act;(repeat' split) <;> (try dsimp only) <;> first | with_reducible exact h | with_reducible exact Yy h _ | with_reducible exact Zi h hx.chunk _ _ | with_reducible exact Zi h (or1_I _) _ _ | with_reducible exact Zi h hw _ _ | with_reducible exact Zi h hx.l _ _
 ·exact ⟨hx,h⟩
structure SpW (x:Sp):Prop where
 t:0<=x.c.t/\x.c.t<=8
 repl:I64 x.repl
 cur:I64 x.cur
 n:I64 x.n
 stuck:I64 x.stuck
theorem SpW.new {c:Cf} (ht:0<=c.t/\c.t<=8) (a m:Int) {r:Int} (h:I64 r):SpW (Sp.new c a m r):=⟨ht,h,jb,jb,jb⟩
theorem SpW.step (h:Zp s.l) {x:Sp} (hx:SpW x):SpW (x.step s).1/\Zp (x.step s).2.l:=by
 have hp:I64 (x.told s):=by unfold Sp.told;(repeat' split) <;> (try dsimp only) <;> first | with_reducible exact qdl h _ | with_reducible exact .of Li Li
 have hh:=qad hx.t;unfold Sp.step;split
 ·refine ⟨?_,?_⟩
  ·generalize x.told s=v at *;have ha:=qbb hp;unfold Sp.next Sp.head;(repeat' split) <;> refine ⟨hx.t,?_,?_,?_,?_⟩ <;> first | with_reducible exact hp | with_reducible exact ha | with_reducible exact hh | with_reducible exact jb | with_reducible exact hx.repl | with_reducible exact hx.cur | with_reducible exact hx.n | with_reducible exact hx.stuck
  ·unfold Sp.act;(repeat' split) <;> (try dsimp only) <;> first | with_reducible exact h | with_reducible exact Yy h _ | with_reducible exact Zi h (q6i _ _) _ _ | with_reducible exact Xh h hx.repl _ | with_reducible exact Xh h (.of Li Li) _
 ·exact ⟨hx,h⟩
def ItW (l:List It):Prop:=∀ y∈l,I64 y.k/\I64 y.d
structure BdW (x:Bd):Prop where
 mn:I64 x.mn
 at_:I64 x.at_
 repl:I64 x.repl
 k:I64 x.x.k
 d:I64 x.x.d
 l:ItW x.l
 g:∀ a∈x.groups,ItW a
 w:∀ q∈x.w,I64 q.2
 c:x.c.c<=16
theorem Kw (vs:List Int):∀ {l:List It} {y:It},y∈Zh vs l->y∈l
 | [],y,h=>by simp [Zh] at h
 | x :: r,y,h=>by
  unfold Zh at h;split at h
  ·rcases List.mem_cons.1 h with rfl | h
   ·simp
   ·exact List.mem_cons_of_mem _ (Kw vs h)
  ·exact List.mem_cons_of_mem _ (Kw vs h)
theorem Yn (half:Int):∀ {n:Nat} {l:List It} {o:List (List It)} {cur a:List It} {y:It},a∈ko half n l o cur->y∈a->y∈l\/y∈cur\/∃ b∈o,y∈b
 | 0,l,o,cur,a,y,h,hy=>by
  unfold ko at h;rcases List.mem_append.1 h with h | h
  ·exact .inr (.inr ⟨a,h,hy⟩)
  ·rw [List.mem_singleton.1 h] at hy;exact .inr (.inl hy)
 | n+1,[],o,cur,a,y,h,hy=>by
  unfold ko at h
  rcases List.mem_append.1 h with h | h
  ·exact .inr (.inr ⟨a,h,hy⟩)
  ·rw [List.mem_singleton.1 h] at hy;exact .inr (.inl hy)
 | n+1,x :: r,o,cur,a,y,h,hy=>by
  unfold ko at h
  simp only at h
  have d1:∀ {y:It},y∈r.dropWhile (fun z=>z.k == x.k)->y∈x :: r:=fun hy=>List.mem_cons_of_mem _ ((List.dropWhile_sublist _).subset hy)
  have d2:∀ {y:It},y∈x :: r.takeWhile (fun z=>z.k == x.k)->y∈x :: r:=fun hy=>by
   rcases List.mem_cons.1 hy with rfl | hy
   ·simp
   ·exact List.mem_cons_of_mem _ ((List.takeWhile_sublist _).subset hy)
  split at h
  ·rcases Yn half h hy with k | k | ⟨b,hb,k⟩
   ·exact .inl (d1 k)
   ·exact .inl (d2 k)
   ·rcases List.mem_append.1 hb with hb | hb
    ·exact .inr (.inr ⟨b,hb,k⟩)
    ·rw [List.mem_singleton.1 hb] at k;exact .inr (.inl k)
  ·rcases Yn half h hy with k | k | k
   ·exact .inl (d1 k)
   ·rcases List.mem_append.1 k with k | k
    ·exact .inr (.inl k)
    ·exact .inl (d2 k)
   ·exact .inr (.inr k)
theorem qcb {l:List It} (h:ItW l) (vs:List Int) (n:Int):∀ a∈xw (Yt l vs) n,ItW a:=fun a ha y hy=>by
 rcases Yn _ ha hy with k | k | ⟨b,hb,k⟩
 ·exact h y (q04.1 (Kw vs k))
 ·simp at k
 ·simp at hb
theorem Sa (a:Int):∀ {l:List It} {k:Nat},ItW l->∀ q∈yd a k l,I64 q.2
 | [],k,_,q,hq=>by simp [yd] at hq
 | y :: r,k,h,q,hq=>by
  unfold yd at hq;simp only [List.mem_cons] at hq;rcases hq with rfl | rfl | rfl | hq
  ·exact Je _
  ·exact (h y Lj).1
  ·exact (h y Lj).2
  ·exact Sa a (fun z hz=>h z P9) q hq
theorem Rj (c:Cf) (after:Int):∀ {gs:List (List It)} {at_:Int} {ms:List Int},(∀ a∈gs,ItW a/\(a.length:Int)<=1000)->(∀ m∈ms,I64 m)->∀ q∈yh (je c at_ after gs ms),I64 q.2
 | [],at_,ms,_,_,q,hq=>by simp [je,yh] at hq
 | a :: r,at_,ms,h,hm,q,hq=>by
  unfold je yh at hq;rw [List.flatMap_cons] at hq;rcases List.mem_append.1 hq with hq | hq
  ·have ha:=h a Lj;unfold Qu at hq;simp only [List.mem_cons] at hq;rcases hq with rfl | rfl | rfl | hq
   ·cases ms with
    | nil=>exact jb
    | cons m ms=>exact hm m Lj
   ·have:=ha.2;exact .of Ma Ma
   ·exact q6i _ _
   ·exact Sa _ ha.1 q hq
  ·exact Rj c after (fun b hb=>h b (by simp [hb])) (fun m k=>hm m (List.mem_of_mem_tail k)) q hq
theorem qau {mn:Int} (h:I64 mn) {gs:List (List It)} (hg:∀ a∈gs,ItW a/\(a.length:Int)<=1000):∀ m∈xg mn gs,I64 m:=by
 cases gs with
 | nil=>simp [xg]
 | cons a r =>
  intro m hm;unfold xg at hm;simp only [List.mem_cons,List.mem_map] at hm;rcases hm with rfl | ⟨b,hb,rfl⟩
  ·exact h
  ·cases b with
   | nil=>exact jb
   | cons y t=>exact ((hg _ (List.mem_cons_of_mem _ hb)).1 y Lj).1
theorem q7u {c:Cf} (hc:c.c<=16) (at_ after:Int) {mn:Int} (h:I64 mn) {gs:List (List It)} (hg:∀ a∈gs,ItW a):∀ q∈yh (yj c at_ after mn gs),I64 q.2:=by
 unfold yj;split
 ·rename_i e;rw [List.all_eq_true] at e;have hg2:∀ a∈gs,ItW a/\(a.length:Int)<=1000:=fun a ha=>⟨hg a ha,by have:=e a ha;simp at this;omega⟩
  exact Rj c after hg2 (qau h hg2)
 ·simp [yh]
theorem BdW.new {c:Cf} (hc:c.c<=16) (a m r:Int) (vs:List Int):BdW (Bd.new c a m r vs):=⟨jb,jb,jb,jb,jb,fun y hy=>by simp [Bd.new] at hy,fun y hy=>by simp [Bd.new] at hy,fun y hy=>by simp [Bd.new] at hy,hc⟩
theorem BdW.on {x:Bd} (hx:BdW x):BdW x.on:=by
 unfold Bd.on;split
 ·exact ⟨hx.mn,hx.at_,hx.repl,hx.k,hx.d,hx.l,qcb hx.l _ _,hx.w,hx.c⟩
 ·exact ⟨hx.mn,hx.at_,hx.repl,hx.k,hx.d,hx.l,hx.g,hx.w,hx.c⟩
theorem BdW.five {x:Bd} (hx:BdW x) {v:Int} (hv:I64 v):BdW (x.five v):=by
 unfold Bd.five;simp only;split
 ·exact ⟨hx.mn,hv,hx.repl,hx.k,hx.d,hx.l,hx.g,hx.w,hx.c⟩
 ·exact ⟨hx.mn,hv,hx.repl,hx.k,hx.d,hx.l,hx.g,q7u hx.c _ _ hx.mn hx.g,hx.c⟩
theorem BdW.step (h:Zp s.l) {x:Bd} (hx:BdW x):BdW (x.step s).1/\Zp (x.step s).2.l:=by
 have hn:I64 x.nth.2:=by
  unfold Bd.nth;rw [List.getD_eq_getElem?_getD];cases e:x.w[x.i.toNat]? with
  | none=>exact jb
  | some q=>exact hx.w q (List.mem_of_getElem? e)
 unfold Bd.step;split
 ·exact ⟨BdW.on ⟨h _,hx.at_,hx.repl,hx.k,hx.d,hx.l,hx.g,hx.w,hx.c⟩,h⟩
 split
 ·have k:BdW { x with x:=⟨0,Vf (qw s.l x.sa),0⟩,line:=3 }:=⟨hx.mn,hx.at_,hx.repl,jb,jb,hx.l,hx.g,hx.w,hx.c⟩;refine ⟨?_,h⟩;simp only;split
  ·exact k.on
  ·exact k
 split
 ·exact ⟨⟨hx.mn,hx.at_,hx.repl,h _,hx.d,hx.l,hx.g,hx.w,hx.c⟩,h⟩
 split
 ·refine ⟨BdW.on ⟨hx.mn,hx.at_,hx.repl,hx.k,h _,fun y hy=>?_,hx.g,hx.w,hx.c⟩,h⟩;rcases List.mem_append.1 hy with hy | hy
  ·exact hx.l y hy
  ·rw [List.mem_singleton.1 hy];exact ⟨hx.k,h _⟩
 split
 ·exact ⟨hx.five (h _),q92 h _ _⟩
 split
 ·exact ⟨⟨hx.mn,hx.at_,hx.repl,hx.k,hx.d,hx.l,hx.g,hx.w,hx.c⟩,Xh h hn _⟩
 split
 ·exact ⟨⟨hx.mn,hx.at_,hx.repl,hx.k,hx.d,hx.l,hx.g,hx.w,hx.c⟩,Zi h hx.at_ _ _⟩
 split
 ·exact ⟨⟨hx.mn,hx.at_,h _,hx.k,hx.d,hx.l,hx.g,hx.w,hx.c⟩,h⟩
 ·exact ⟨hx,h⟩
structure FmW (x:Fm):Prop where
 l:LdW x.l
 b:∀ y,x.b=some y->BdW y
 p:∀ y,x.p=some y->SpW y
 repl:I64 x.repl
structure MdW (x:Md):Prop where
 t:0<=x.c.t/\x.c.t<=8
 c:x.c.c<=16
 f:∀ y∈x.f,FmW y
theorem FmW.new (c:Cf) {a:Int} (h:I64 a) (d:Bool):FmW (Fm.new c a d):=⟨LdW.new c h d,fun y e=>Ly,fun y e=>Ly,jb⟩
theorem MdW.new {c:Cf} (ht:0<=c.t/\c.t<=8) (hc:c.c<=16) {a:Int} (h:I64 a) (ds:List Int):MdW (Md.new c a ds):=⟨ht,hc,fun y hy=>by
 unfold Md.new at hy
 rw [List.mem_singleton.1 hy];exact FmW.new c h _⟩
theorem FmW.splice {f:Fm} (hf:FmW f) {c:Cf} (ht:0<=c.t/\c.t<=8) {r:Int} (h:I64 r):FmW (f.splice c r):=⟨hf.l,hf.b,fun y e=>by
 unfold Fm.splice at e
 simp only [Option.some.injEq] at e
 rw [<- e];exact SpW.new ht _ _ h,h⟩
theorem MdW.put {m:Md} (hm:MdW m) {g:List Fm} (hg:∀ y∈g,FmW y) (ds:List Int) (e:Int):MdW ⟨m.c,ds,m.f.dropLast++g,e⟩:=⟨hm.t,hm.c,fun y hy=>by
 rcases List.mem_append.1 hy with hy | hy
 ·exact hm.f y (List.dropLast_subset _ hy)
 ·exact hg y hy⟩
theorem MdW.step (h:Zp s.l) {m:Md} (hm:MdW m):MdW (m.step s).1/\Zp (m.step s).2.l:=by
 unfold Md.step;cases e:m.f.getLast? with
 | none=>exact ⟨hm,h⟩
 | some f =>
  have hf:=hm.f f (List.mem_of_getLast? e);have one:∀ {g:Fm},FmW g->∀ y∈[g],FmW y:=fun k y hy=>by rw [List.mem_singleton.1 hy];exact k
  simp only;split
  ·obtain ⟨k1,k2⟩:=hf.l.step h;refine ⟨?_,k2⟩
   have k:FmW (if (f.l.step s).1.line=0 then { f with l:=(f.l.step s).1,part:=2,s:=some (Sl.new m.c (f.l.step s).1.three.1 (f.l.step s).1.three.2.1) } else { f with l:=(f.l.step s).1 }):=by
    split
    ·exact ⟨k1,hf.b,hf.p,hf.repl⟩
    ·exact ⟨k1,hf.b,hf.p,hf.repl⟩
   generalize (if (f.l.step s).1.line=0 then { f with l:=(f.l.step s).1,part:=2,s:=some (Sl.new m.c (f.l.step s).1.three.1 (f.l.step s).1.three.2.1) } else { f with l:=(f.l.step s).1 }:Fm)=y at *;split
   ·exact hm.put (one k) _ _
   ·exact hm.put (one k) _ _
  split
  ·cases f.s with
   | none=>exact ⟨hm,h⟩
   | some x =>
    simp only;exact ⟨hm.put (one (g:={ f with s:=some (x.step s).1,part:=if (x.step s).1.line=0 then 3 else 2 }) ⟨hf.l,hf.b,hf.p,hf.repl⟩) _ _,sl_I h x⟩
  split
  ·refine ⟨hm.put (one ?_) _ _,h⟩;split
   ·exact ⟨hf.l,hf.b,hf.p,hf.repl⟩
   ·exact hf.splice hm.t (h _)
  split
  ·cases f.n with
   | none =>
    simp only;exact ⟨hm.put (one (g:={ f with n:=some (Nd.new m.c) }) ⟨hf.l,hf.b,hf.p,hf.repl⟩) _ _,h⟩
   | some x =>
    simp only;refine ⟨hm.put (one ?_) _ _,nd_I h x⟩;split
    ·refine ⟨hf.l,fun y e=>?_,hf.p,hf.repl⟩;simp only [Option.some.injEq] at e;rw [<- e];exact BdW.new hm.c _ _ _ _
    ·exact ⟨hf.l,hf.b,hf.p,hf.repl⟩
  split
  ·cases eb:f.b with
   | none=>exact ⟨hm,h⟩
   | some x =>
    obtain ⟨k1,k2⟩:=(hf.b x eb).step h;refine ⟨?_,k2⟩;have k:FmW { f with b:=some (x.step s).1 }:=⟨hf.l,fun y e=>by simp only [Option.some.injEq] at e;rw [<- e];exact k1,hf.p,hf.repl⟩;simp only;split
    ·split
     ·exact hm.put (one (k.splice hm.t k1.repl)) _ _
     ·exact ⟨hm.t,hm.c,fun y hy=>by simp at hy⟩
    ·exact hm.put (one k) _ _
  split
  ·cases ep:f.p with
   | none=>exact ⟨hm,h⟩
   | some x =>
    obtain ⟨k1,k2⟩:=(hf.p x ep).step h;refine ⟨?_,k2⟩;have k:FmW { f with p:=some (x.step s).1 }:=⟨hf.l,hf.b,fun y e=>by simp only [Option.some.injEq] at e;rw [<- e];exact k1,hf.repl⟩;simp only;split
    ·split
     ·exact ⟨hm.t,hm.c,fun y hy=>hm.f y (List.dropLast_subset _ hy)⟩
     ·refine hm.put (fun y hy=>?_) _ _;simp only [List.mem_cons,List.not_mem_nil,or_false] at hy;rcases hy with rfl | rfl
      ·exact k.splice hm.t hf.repl
      ·exact FmW.new m.c k1.stuck _
    ·exact hm.put (one k) _ _
  ·exact ⟨hm,h⟩
structure PtW (x:Pt):Prop where
 t:0<=x.c.t/\x.c.t<=8
 c:x.c.c<=16
 key:I64 x.key
 data:I64 x.data
 w:WkW x.w
 xx:∀ y,x.x=some y->ClW y
 m:∀ y,x.m=some y->MdW y
theorem PtW.new {c:Cf} (ht:0<=c.t/\c.t<=8) (hc:c.c<=16) {k d:Int} (hk:I64 k) (hd:I64 d) (ds:List Int):PtW (Pt.new c k d ds):=⟨ht,hc,hk,hd,WkW.new ht _,fun y e=>Ly,fun y e=>Ly⟩
theorem PtW.step (h:Zp s.l) {x:Pt} (hx:PtW x):PtW (x.step s).1/\Zp (x.step s).2.l:=by
 unfold Pt.step;split
 ·exact ⟨hx,h⟩
 cases em:x.m with
 | some m =>
  obtain ⟨k1,k2⟩:=(hx.m m em).step h;refine ⟨?_,k2⟩;simp only;split
  ·exact ⟨hx.t,hx.c,hx.key,hx.data,WkW.new hx.t _,fun y e=>Ly,fun y e=>Ly⟩
  ·exact ⟨hx.t,hx.c,hx.key,hx.data,hx.w,hx.xx,fun y e=>by simp only [Option.some.injEq] at e;rw [<- e];exact k1⟩
 | none =>
  cases ex:x.x with
  | some y =>
   obtain ⟨k1,k2⟩:=(hx.xx y ex).step h;refine ⟨?_,k2⟩;have kx:∀ z,some (y.step s).1=some z->ClW z:=fun z e=>by simp only [Option.some.injEq] at e;rw [<- e];exact k1
   simp only;split
   ·split
    ·exact Eb
    ·exact ⟨hx.t,hx.c,hx.key,hx.data,hx.w,kx,fun z e=>by simp only [Option.some.injEq] at e;rw [<- e];exact MdW.new hx.t hx.c k1.chunk _⟩
   ·exact Eb
  | none =>
   obtain ⟨k1,k2⟩:=hx.w.step h;refine ⟨?_,qe8 h _⟩;simp only;split
   ·exact ⟨hx.t,hx.c,hx.key,hx.data,k1,fun z e=>by simp only [Option.some.injEq] at e;rw [<- e];exact ⟨hx.key,hx.data,k1.at_⟩,fun z e=>Ms⟩
   ·exact ⟨hx.t,hx.c,hx.key,hx.data,k1,fun z e=>(by first | exact hx.xx z e | (simp only at e;rw [ex] at e;cases e) | cases e),fun z e=>Ms⟩
end
structure McW (m:Mc):Prop where
 a:Zp m.a.l
 t:∀ (i:Nat) (x:Th),m.t[i]? = some x->∀ y,x.p=some y->PtW y
theorem qcc {N:Nat} {m:Mc} (h:MInv N m) {n:Nat} {x:Th} (hx:m.t[n]? = some x) (hn:x.next<((m.opsOf (n:Int)).length:Int)):∀ y,(m.begun (n:Int)).p=some y->PtW y:=by
 have ht:=h.th n x hx;have h0:=ht.n0;have e:m.th (n:Int)=x:=by unfold Mc.th;rw [Int.toNat_natCast,List.getD_eq_getElem?_getD,hx];rfl
 have hk:=h.opk (n:Int) (Ux (l:=m.opsOf (n:Int)) (i:=x.next.toNat) (0,0,0,0) Li);have k1:=h.c.t1;have k8:=h.c.t8;have k16:=h.c.c16;unfold Mc.begun;rw [e];simp only;generalize (m.opsOf (n:Int)).getD x.next.toNat (0,0,0,0)=o at *;split
 ·exact Ej
 ·split
  ·exact Ej
  ·split <;> (intro y e;cases e)
theorem McW.steps {m:Mc} (h:McW m) {n k:Nat}:McW (m.steps (n:Int) k):=by
 have set:∀ {x':Th},(∀ y,x'.p=some y->PtW y)->∀ (i:Nat) (x:Th),(m.t.set n x')[i]? = some x->∀ y,x.p=some y->PtW y:=fun {x'} hx' i x hx=>by
  by_cases e:i=n
  ·subst e;rw [List.getElem?_set] at hx;simp only [if_true] at hx;split at hx
   ·cases hx;exact hx'
   ·cases hx
  ·rw [List.getElem?_set_ne (fun k=>e k.symm)] at hx;exact h.t i x hx
 have at_:∀ y,(m.th (n:Int)).p=some y->PtW y:=fun y e=>by
  unfold Mc.th at e;rw [Int.toNat_natCast,List.getD_eq_getElem?_getD] at e;cases hx:m.t[n]? with
  | none=>rw [hx] at e;cases e
  | some x=>rw [hx] at e;exact h.t n x hx y e
 unfold Mc.steps;simp only [Int.toNat_natCast];cases hp:(m.th (n:Int)).p with
 | some p =>
  obtain ⟨k1,k2⟩:=(at_ p hp).step h.a;exact ⟨k2,set (fun y e=>by simp only [Option.some.injEq] at e;rw [<- e];exact k1)⟩
 | none =>
  cases hg:(m.th (n:Int)).g with
  | some g=>exact ⟨gt_I h.a g,set (fun y e=>by simp only at e;first | cases e | (rw [hp] at e;cases e))⟩
  | none =>
   cases hs:(m.th (n:Int)).s with
   | some y=>exact ⟨sn_I h.a y,set (fun y e=>by simp only at e;first | cases e | (rw [hp] at e;cases e))⟩
   | none=>exact h
theorem McW.same {m m':Mc} (h:McW m) (ea:m'.a=m.a) (et:m'.t=m.t):McW m':=⟨by rw [ea];exact h.a,by rw [et];exact h.t⟩
theorem qbl {m:Mc} (h:McW m):McW m.notes:=by
 unfold Mc.notes;simp only;split
 ·split
  ·exact I9
  ·exact I9
 ·exact I9
theorem qdu {N:Nat} {m:Mc} (h:McW m) (hI:MInv N m) (t:Int):McW (m.pick t):=by
 unfold Mc.pick;split
 ·exact h.same rfl rfl
 ·rename_i ho;obtain ⟨n,x,rfl,hx,e,hb⟩:=Jf (by simpa using ho);simp only
  have h1:McW (if (m.th (n:Int)).busy=true then m else m.begins (n:Int)):=by
   split
   ·exact h
   ·rename_i hb';rw [e] at hb';have hn:=hb (by simpa using hb');refine ⟨h.a,fun i y hy=>?_⟩;unfold Mc.begins at hy;simp only [Int.toNat_natCast] at hy;by_cases ei:i=n
    ·subst ei;rw [List.getElem?_set_self (List.getElem?_eq_some_iff.1 hx).1] at hy;cases hy;exact qcc hI hx hn
    ·rw [List.getElem?_set_ne (fun k=>ei k.symm)] at hy;exact h.t i y hy
  generalize (if (m.th (n:Int)).busy=true then m else m.begins (n:Int))=m1 at *;split
  ·rename_i k hk;have h2:=h1.steps (n:=n) (k:=k);generalize m1.steps (n:Int) k=m2 at *;split
   ·exact (qbl h2).same rfl rfl
   ·exact h2.same rfl rfl
  ·exact h1
theorem qe2 {c:Cf} {rs:List (List O)} (ds:List Int) (hc:c.Ok):McW (Mc.new c rs ds):=by
 have ht:=hc.t1;have ht8:=hc.t8;have htop:=hc.top;have hc2:=hc.c2;have hc16:=hc.c16;refine ⟨fun p=>?_,fun i x hx y e=>?_⟩
 ·show I64 (qw (Pl.begun c.t c.c c.wd).l p);by_cases hp:0<=p/\p<c.wd
  ·obtain ⟨k,rfl⟩:=Int.eq_ofNat_of_zero_le hp.1;obtain ⟨n,hn⟩:=Int.eq_ofNat_of_zero_le (show 0<=c.wd by omega);have:=Pl.Wm (t:=c.t) (c:=c.c) (n:=n) k hc.t1 hc.t8 Li Li Li;rw [<- hn] at this;rw [this];unfold Pl.Qi;(repeat' split) <;> exact .of Li Li
  ·have hl:((Pl.begun c.t c.c c.wd).l.length:Int)=c.wd:=Hn
   unfold qw J8;rw [qd (by rw [hl];simpa using hp)];exact jb
 ·unfold Mc.new at hx;simp only [List.getElem?_replicate] at hx;split at hx
  ·cases hx;cases e
  ·cases hx
theorem qct:∀ (ps:List Int) (N:Nat) (m:Mc),McW m->MInv N m->McW (ps.foldl Mc.pick m)
 | [],N,m,h,_=>h
 | p :: ps,N,m,h,hI=>qct ps (N+4) (m.pick p) (qdu h hI p) (hI.pick p)
theorem runP_W {c:Cf} {rs:List (List O)} (ds:List Int) (hc:c.Ok) (hI:MInv 1 (Mc.new c rs ds)) (ps:List Int):Zp (q7w c rs ds ps).a.l :=
 (qct ps 1 _ (qe2 ds hc) hI).a
end Go.Proofs.YtaccfepnhmgagaaGreatDoor.Mx
