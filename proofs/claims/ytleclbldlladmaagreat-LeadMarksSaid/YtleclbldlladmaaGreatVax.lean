/- Parts. -/
import Derived.Test.YtleclbldlladmaaGreatVab
import Derived.Sort.LotA
import Derived.Sort.WalkA
set_option linter.unusedVariables false
set_option linter.unusedSimpArgs false
set_option maxRecDepth 100000
set_option maxHeartbeats 12800000
namespace Go.Proofs.YtleclbldlladmaaGreat.Mx
open Go.Sort
theorem q4t (vs:List Int) (x:It) (r:List It):Zi vs (x :: r)=if Xr x r.head? vs=true then x :: Zi vs r else Zi vs r:=rfl
def leT (x y:It):Prop:=x.k<y.k\/(x.k=y.k/\x.v<=y.v)
def ltT (x y:It):Prop:=x.k<y.k\/(x.k=y.k/\x.v<y.v)
def atS (k v:Int) (x:It):Bool:=(x.k == k) && (x.v == v)
theorem q0c {k v:Int} {x:It}:atS k v x=true↔x.k=k/\x.v=v:=by simp [atS]
def Srt (l:List It):Prop:=l.Pairwise leT
theorem q83 (x:It):leT x x:=by unfold leT;omega
theorem qd1 {x y:It} (h:ltT x y):leT x y:=by unfold leT ltT at *;omega
theorem Vl {x:It} {l:List It}:Srt (x :: l)↔(∀ y∈l,leT x y)/\Srt l:=List.pairwise_cons
theorem qar {a b:List It} (h:∀ k v,a.filter (atS k v)=b.filter (atS k v)) (x:It):x∈a↔x∈b:=by
 have e:=h x.k x.v;have p:atS x.k x.v x=true:=q0c.2 ⟨rfl,rfl⟩;constructor
 ·intro hx;have:x∈a.filter (atS x.k x.v):=List.mem_filter.2 ⟨hx,p⟩;rw [e] at this;exact (List.mem_filter.1 this).1
 ·intro hx;have:x∈b.filter (atS x.k x.v):=List.mem_filter.2 ⟨hx,p⟩;rw [<- e] at this;exact (List.mem_filter.1 this).1
theorem q7j {x y:It}:gtT y x=true↔ltT x y:=by unfold gtT ltT;simp only [Bool.or_eq_true,Bool.and_eq_true,decide_eq_true_eq,beq_iff_eq];constructor <;> (intro h;omega)
theorem Ru (out:List It) (x:It):∀ n,n<=out.length->(∀ j (hj:j<out.length),Ye out x n<=j->j<n->ltT x out[j])/\(∀ (h:0<Ye out x n) (hl:Ye out x n - 1<out.length),¬ ltT x (out[Ye out x n - 1]'hl)):=by
 intro n;induction n with
 | zero=>exact fun _=>⟨fun j hj h1 h2=>absurd h2 Lb,fun h=>absurd h (by simp [Ye])⟩
 | succ k ih =>
  intro hn;have hk:k<out.length:=by omega
  have he:out[k]? = some out[k]:=List.getElem?_eq_getElem hk;rw [Rw he];split
  ·rename_i hg;obtain ⟨h1,h2⟩:=ih Lb;refine ⟨fun j hj a b=>?_,h2⟩;by_cases e:j=k
   ·subst e;exact q7j.1 hg
   ·exact h1 j hj a Lb
  ·rename_i hg;refine ⟨fun j hj a b=>absurd b Lb,fun h hl=>?_⟩;intro hh;exact hg (q7j.2 (by simpa using hh))
theorem U1 (out:List It) (x:It) (h:Srt out):∃ A B,out=A++B/\Tt out x=A++x :: B/\(∀ y∈A,leT y x)/\(∀ y∈B,ltT x y):=by
 refine ⟨out.take (Ye out x out.length),out.drop (Ye out x out.length),(List.take_append_drop _ _).symm,by unfold Tt;simp,?_,?_⟩
 ·intro y hy;obtain ⟨h1,h2⟩:=Ru out x out.length (Nat.le_refl _);have hp:=q5d out x out.length;obtain ⟨i,hi,rfl⟩:=List.getElem_of_mem hy;have hi':=hi;rw [List.length_take] at hi';rw [List.getElem_take];have hl:Ye out x out.length - 1<out.length:=by omega
  have h3:=h2 Lb hl
  have h4:leT out[i] out[Ye out x out.length - 1]:=by
   by_cases e:i=Ye out x out.length - 1
   ·simp only [<- e];exact q83 _
   ·exact (List.pairwise_iff_getElem.1 h) _ _ Lb hl Lb
  generalize out[Ye out x out.length - 1]=z at *;generalize out[i]=y at *;unfold leT ltT at *;omega
 ·intro y hy;obtain ⟨h1,h2⟩:=Ru out x out.length (Nat.le_refl _);obtain ⟨i,hi,rfl⟩:=List.getElem_of_mem hy;rw [List.length_drop] at hi;rw [List.getElem_drop];exact h1 _ Lb Lb Lb
theorem q7p {out:List It} (h:Srt out) (x:It):Srt (Tt out x):=by
 obtain ⟨A,B,e,e2,hA,hB⟩:=U1 out x h;rw [e2];rw [e] at h;unfold Srt at *;rw [List.pairwise_append] at *;refine ⟨h.1,List.pairwise_cons.2 ⟨fun y hy=>qd1 (hB y hy),h.2.1⟩,fun a ha b hb=>?_⟩;rcases List.mem_cons.1 hb with rfl | hb
 ·exact hA a ha
 ·exact h.2.2 a ha b hb
theorem q8c {out:List It} (h:Srt out) (x:It) (k v:Int):(Tt out x).filter (atS k v)=(out++[x]).filter (atS k v):=by
 obtain ⟨A,B,e,e2,hA,hB⟩:=U1 out x h;rw [e2];rw [e];by_cases p:atS k v x=true
 ·have hB0:B.filter (atS k v)=[]:=by rw [List.filter_eq_nil_iff];intro y hy hp;have:=hB y hy;have:=q0c.1 hp;have:=q0c.1 p;unfold ltT at *;omega
  simp [List.filter_append,List.filter_cons_of_pos p,hB0]
 ·simp [List.filter_append,List.filter_cons_of_neg p]
theorem q1y (l:List It):∀ out,Srt out->Srt (l.foldl Tt out)/\∀ k v,(l.foldl Tt out).filter (atS k v)=(out++l).filter (atS k v):=by
 induction l with
 | nil=>intro out h;exact ⟨h,fun k v=>by simp⟩
 | cons x l ih =>
  intro out h;obtain ⟨h1,h2⟩:=ih _ (q7p h x);refine ⟨h1,fun k v=>?_⟩;rw [List.foldl_cons,h2,List.filter_append,q8c h,<- List.filter_append];simp
theorem q5i (l:List It):Srt (Zd l):=(q1y l [] List.Pairwise.nil).1
theorem q7a (l:List It) (k v:Int):(Zd l).filter (atS k v)=l.filter (atS k v):=(q1y l [] List.Pairwise.nil).2 k v
theorem Tx {l:List It} {x:It}:x∈Zd l↔x∈l:=qar (q7a l) x
theorem Yc (vs:List Int):∀ s,(Zi vs s).Sublist s
 | []=>List.Sublist.refl _
 | x :: r=>by
  rw [q4t];split
  ·exact (Yc vs r).cons_cons x
  ·exact (Yc vs r).cons x
theorem q1m {a b:List It} (h:Srt b) (s:a.Sublist b):Srt a:=List.Pairwise.sublist s h
theorem q64 (l:List It) (vs:List Int):Srt (Yf l vs):=q1m (q5i l) (Yc vs _)
instance:Inhabited It:=⟨⟨0,0,0⟩⟩
end Go.Proofs.YtleclbldlladmaaGreat.Mx
