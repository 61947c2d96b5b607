/- Parts. -/
import Derived.Test.YtbddhncgemeohaaGreatDoorYag
import Derived.Sort.LotA
import Derived.Sort.WalkA
set_option linter.unusedVariables false
set_option linter.unusedSimpArgs false
set_option maxRecDepth 100000
set_option maxHeartbeats 12800000
namespace Go.Proofs.YtbddhncgemeohaaGreatDoor.Mx
open Go.Sort
theorem q4w (vs:List Int) (x:It) (r:List It):Xj vs (x :: r)=if Xx x r.head? vs=true then x :: Xj vs r else Xj vs r:=rfl
def leT (x y:It):Prop:=x.k<y.k\/(x.k=y.k/\x.v<=y.v)
def ltT (x y:It):Prop:=x.k<y.k\/(x.k=y.k/\x.v<y.v)
def atS (k v:Int) (x:It):Bool:=(x.k == k) && (x.v == v)
theorem q0s {k v:Int} {x:It}:atS k v x=true↔x.k=k/\x.v=v:=by simp [atS]
def Srt (l:List It):Prop:=l.Pairwise leT
theorem q8u (x:It):leT x x:=by unfold leT;omega
theorem qdn {x y:It} (h:ltT x y):leT x y:=by unfold leT ltT at *;omega
theorem Ya {x:It} {l:List It}:Srt (x :: l)↔(∀ y∈l,leT x y)/\Srt l:=List.pairwise_cons
theorem qc1 {a b:List It} (h:∀ k v,a.filter (atS k v)=b.filter (atS k v)) (x:It):x∈a↔x∈b:=by
 have e:=h x.k x.v;have p:atS x.k x.v x=true:=q0s.2 ⟨rfl,rfl⟩;constructor
 ·intro hx;have:x∈a.filter (atS x.k x.v):=List.mem_filter.2 ⟨hx,p⟩;rw [e] at this;exact (List.mem_filter.1 this).1
 ·intro hx;have:x∈b.filter (atS x.k x.v):=List.mem_filter.2 ⟨hx,p⟩;rw [<- e] at this;exact (List.mem_filter.1 this).1
theorem q6j {x y:It}:gtT y x=true↔ltT x y:=by unfold gtT ltT;simp only [Bool.or_eq_true,Bool.and_eq_true,decide_eq_true_eq,beq_iff_eq];constructor <;> (intro h;omega)
theorem Rw (out:List It) (x:It):∀ n,n<=out.length->(∀ j (hj:j<out.length),Yd out x n<=j->j<n->ltT x out[j])/\(∀ (h:0<Yd out x n) (hl:Yd out x n - 1<out.length),¬ ltT x (out[Yd out x n - 1]'hl)):=by
 intro n;induction n with
 | zero=>exact fun _=>⟨fun j hj h1 h2=>absurd h2 Ly,fun h=>absurd h (by simp [Yd])⟩
 | succ k ih =>
  intro hn;have hk:k<out.length:=by omega
  have he:out[k]? = some out[k]:=List.getElem?_eq_getElem hk;rw [Sw he];split
  ·rename_i hg;obtain ⟨h1,h2⟩:=ih Ly;refine ⟨fun j hj a b=>?_,h2⟩;by_cases e:j=k
   ·subst e;exact q6j.1 hg
   ·exact h1 j hj a Ly
  ·rename_i hg;refine ⟨fun j hj a b=>absurd b Ly,fun h hl=>?_⟩;intro hh;exact hg (q6j.2 (by simpa using hh))
theorem Ww (out:List It) (x:It) (h:Srt out):∃ A B,out=A++B/\Tn out x=A++x :: B/\(∀ y∈A,leT y x)/\(∀ y∈B,ltT x y):=by
 refine ⟨out.take (Yd out x out.length),out.drop (Yd out x out.length),(List.take_append_drop _ _).symm,by unfold Tn;simp,?_,?_⟩
 ·intro y hy;obtain ⟨h1,h2⟩:=Rw out x out.length (Nat.le_refl _);have hp:=q5x out x out.length;obtain ⟨i,hi,rfl⟩:=List.getElem_of_mem hy;have hi':=hi;rw [List.length_take] at hi';rw [List.getElem_take];have hl:Yd out x out.length - 1<out.length:=by omega
  have h3:=h2 Ly hl
  have h4:leT out[i] out[Yd out x out.length - 1]:=by
   by_cases e:i=Yd out x out.length - 1
   ·simp only [<- e];exact q8u _
   ·exact (List.pairwise_iff_getElem.1 h) _ _ Ly hl Ly
  generalize out[Yd out x out.length - 1]=z at *;generalize out[i]=y at *;unfold leT ltT at *;omega
 ·intro y hy;obtain ⟨h1,h2⟩:=Rw out x out.length (Nat.le_refl _);obtain ⟨i,hi,rfl⟩:=List.getElem_of_mem hy;rw [List.length_drop] at hi;rw [List.getElem_drop];exact h1 _ Ly Ly Ly
theorem q9x {out:List It} (h:Srt out) (x:It):Srt (Tn out x):=by
 obtain ⟨A,B,e,e2,hA,hB⟩:=Ww out x h;rw [e2];rw [e] at h;unfold Srt at *;rw [List.pairwise_append] at *;refine ⟨h.1,List.pairwise_cons.2 ⟨fun y hy=>qdn (hB y hy),h.2.1⟩,fun a ha b hb=>?_⟩;rcases List.mem_cons.1 hb with rfl | hb
 ·exact hA a ha
 ·exact h.2.2 a ha b hb
theorem qa8 {out:List It} (h:Srt out) (x:It) (k v:Int):(Tn out x).filter (atS k v)=(out++[x]).filter (atS k v):=by
 obtain ⟨A,B,e,e2,hA,hB⟩:=Ww out x h;rw [e2];rw [e];by_cases p:atS k v x=true
 ·have hB0:B.filter (atS k v)=[]:=by rw [List.filter_eq_nil_iff];intro y hy hp;have:=hB y hy;have:=q0s.1 hp;have:=q0s.1 p;unfold ltT at *;omega
  simp [List.filter_append,List.filter_cons_of_pos p,hB0]
 ·simp [List.filter_append,List.filter_cons_of_neg p]
theorem q2v (l:List It):∀ out,Srt out->Srt (l.foldl Tn out)/\∀ k v,(l.foldl Tn out).filter (atS k v)=(out++l).filter (atS k v):=by
 induction l with
 | nil=>intro out h;exact ⟨h,fun k v=>by simp⟩
 | cons x l ih =>
  intro out h;obtain ⟨h1,h2⟩:=ih _ (q9x h x);refine ⟨h1,fun k v=>?_⟩;rw [List.foldl_cons,h2,List.filter_append,qa8 h,<- List.filter_append];simp
theorem q7l (l:List It):Srt (Ze l):=(q2v l [] List.Pairwise.nil).1
theorem q75 (l:List It) (k v:Int):(Ze l).filter (atS k v)=l.filter (atS k v):=(q2v l [] List.Pairwise.nil).2 k v
theorem q7u {l:List It} {x:It}:x∈Ze l↔x∈l:=qc1 (q75 l) x
theorem Vt (vs:List Int):∀ s,(Xj vs s).Sublist s
 | []=>List.Sublist.refl _
 | x :: r=>by
  rw [q4w];split
  ·exact (Vt vs r).cons_cons x
  ·exact (Vt vs r).cons x
theorem q10 {a b:List It} (h:Srt b) (s:a.Sublist b):Srt a:=List.Pairwise.sublist s h
theorem q70 (l:List It) (vs:List Int):Srt (J6 l vs):=q10 (q7l l) (Vt vs _)
instance:Inhabited It:=⟨⟨0,0,0⟩⟩
end Go.Proofs.YtbddhncgemeohaaGreatDoor.Mx
namespace Go.Proofs.YtbddhncgemeohaaGreatDoor.Mx
structure Grs (half:Int) (out:List (List It)) (cur l:List It):Prop where
 srt:Srt (out.flatten++cur++l)
 full:∀ g∈out,g≠[]
 cur0:cur=[]->out=[]
 apart:(out++[cur]).Pairwise fun a b=>∀ x∈a,∀ y∈b,x.k<y.k
 ahead:∀ x∈out.flatten++cur,∀ y∈l,x.k<y.k
 small:∀ g∈out++[cur],half<(g.length:Int)->∀ x∈g,∀ y∈g,x.k=y.k
theorem Ws {x:It}:∀ {r:List It},(∀ y∈r,leT x y)->Srt r->∀ y∈r.dropWhile (fun y=>y.k == x.k),x.k<y.k
 | [],_,_,y,hy=>by simp at hy
 | z :: r,h1,h2,y,hy=>by
  rw [List.dropWhile_cons] at hy;by_cases hz:(z.k == x.k)=true
  ·rw [qg hz] at hy;exact Ws (fun y hy=>h1 y A01) (Ya.1 h2).2 y hy
  ·rw [qf hz] at hy;have hne:z.k≠x.k:=by simpa using hz
   have hxz:=h1 z Ma
   have hzy:z.k<=y.k:=by
    rcases List.mem_cons.1 hy with rfl | hy
    ·omega
    ·have:=(Ya.1 h2).1 y hy;unfold leT at this;omega
   unfold leT at hxz;omega
theorem q28 {x:It}:∀ {r:List It},∀ y∈r.takeWhile (fun y=>y.k == x.k),y.k=x.k
 | [],y,hy=>by simp at hy
 | z :: r,y,hy=>by
  rw [List.takeWhile_cons] at hy;by_cases hz:(z.k == x.k)=true
  ·rw [qg hz] at hy;rcases List.mem_cons.1 hy with rfl | hy
   ·simpa using hz
   ·exact q28 y hy
  ·rw [qf hz] at hy;simp at hy
theorem V8 {half:Int}:∀ (n:Nat) (l:List It) (out:List (List It)) (cur:List It),l.length<=n->Grs half out cur l ->
  ∃ o c,Qk half n l out cur=o++[c]/\Grs half o c []/\o.flatten++c=out.flatten++cur++l/\(c=[]->l=[])
 | 0,l,out,cur,hn,h=>by
  have:l=[]:=List.eq_nil_of_length_eq_zero Ly;subst this;exact ⟨out,cur,rfl,h,by simp,fun _=>rfl⟩
 | n+1,[],out,cur,hn,h=>⟨out,cur,rfl,h,by simp,fun _=>rfl⟩
 | n+1,x :: r,out,cur,hn,h=>by
  have hl:Srt (x :: r):=q10 h.srt (List.sublist_append_right _ _)
  have h2:=Ws (Ya.1 hl).1 (Ya.1 hl).2
  have h1:∀ y∈x :: r.takeWhile (fun y=>y.k == x.k),y.k=x.k:=fun y hy=>by
   rcases List.mem_cons.1 hy with rfl | hy
   ·rfl
   ·exact q28 y hy
  have he:x :: r=(x :: r.takeWhile (fun y=>y.k == x.k))++r.dropWhile (fun y=>y.k == x.k):=by rw [List.cons_append,List.takeWhile_append_dropWhile]
  have hd:(r.dropWhile (fun y=>y.k == x.k)).length<=n:=by
   have:=congrArg List.length he
   simp only [List.length_cons,List.length_append] at this hn;omega
  have hne:(x :: r.takeWhile (fun y=>y.k == x.k))≠[]:=by simp
  have hs:=h.srt
  have ha:=h.ahead
  rw [he] at hs ha
  show ∃ o c,(if cur≠[]/\half<(cur.length:Int)+((x :: r.takeWhile (fun y=>y.k == x.k)).length:Nat) then Qk half n (r.dropWhile (fun y=>y.k == x.k)) (out++[cur]) (x :: r.takeWhile (fun y=>y.k == x.k)) else Qk half n (r.dropWhile (fun y=>y.k == x.k)) out (cur++(x :: r.takeWhile (fun y=>y.k == x.k))))=o++[c]/\_
  rw [he]
  generalize (x :: r.takeWhile (fun y=>y.k == x.k))=run at *
  generalize r.dropWhile (fun y=>y.k == x.k)=rest at *
  have hrun:∀ a∈out.flatten++cur,∀ y∈run,a.k<y.k:=fun a ha' y hy=>ha a ha' y (List.mem_append_left _ hy)
  have hrest:∀ a∈out.flatten++cur,∀ y∈rest,a.k<y.k:=fun a ha' y hy=>ha a ha' y (List.mem_append_right _ hy)
  have hrr:∀ a∈run,∀ y∈rest,a.k<y.k:=fun a ha' y hy=>by rw [h1 a ha'];exact h2 y hy
  by_cases hc:cur≠[]/\half<(cur.length:Int)+(run.length:Nat)
  ·rw [qg hc]
   have hG:Grs half (out++[cur]) run rest:=by
    refine ⟨by simpa [List.append_assoc] using hs,?_,fun e=>absurd e hne,?_,?_,?_⟩
    ·intro g hg
     rcases List.mem_append.1 hg with hg | hg
     ·exact h.full g hg
     ·rw [List.mem_singleton.1 hg];exact hc.1
    ·rw [List.pairwise_append]
     refine ⟨h.apart,by simp,fun a ha' b hb=>?_⟩
     rw [List.mem_singleton.1 hb]
     intro p hp q hq
     refine hrun p ?_ q hq
     rcases List.mem_append.1 ha' with hg | hg
     ·exact List.mem_append_left _ (List.mem_flatten.2 ⟨a,hg,hp⟩)
     ·rw [List.mem_singleton.1 hg] at hp;exact List.mem_append_right _ hp
    ·intro p hp q hq
     rcases List.mem_append.1 hp with hp | hp
     ·exact hrest p (by simpa using hp) q hq
     ·exact hrr p hp q hq
    ·intro g hg hh
     rcases List.mem_append.1 hg with hg | hg
     ·exact h.small g hg hh
     ·rw [List.mem_singleton.1 hg];intro p hp q hq;rw [h1 p hp,h1 q hq]
   obtain ⟨o,c,e1,e2,e3,e4⟩:=V8 n rest (out++[cur]) run hd hG
   refine ⟨o,c,e1,e2,by rw [e3];simp [List.append_assoc],fun e=>?_⟩
   have:=e2.cur0 e
   rw [this,e] at e3
   simp at e3
   exact absurd e3.2.2.1 hne
  ·rw [qf hc]
   have hG:Grs half out (cur++run) rest:=by
    refine ⟨by simpa [List.append_assoc] using hs,h.full,fun e=>absurd (List.append_eq_nil_iff.1 e).2 hne,?_,?_,?_⟩
    ·have:=h.apart
     rw [List.pairwise_append] at this ⊢
     refine ⟨this.1,by simp,fun a ha' b hb=>?_⟩
     rw [List.mem_singleton.1 hb]
     intro p hp q hq
     rcases List.mem_append.1 hq with hq | hq
     ·exact this.2.2 a ha' cur Ma p hp q hq
     ·exact hrun p (List.mem_append_left _ (List.mem_flatten.2 ⟨a,ha',hp⟩)) q hq
    ·intro p hp q hq
     rw [<- List.append_assoc] at hp
     rcases List.mem_append.1 hp with hp | hp
     ·exact hrest p hp q hq
     ·exact hrr p hp q hq
    ·intro g hg hh
     rcases List.mem_append.1 hg with hg | hg
     ·exact h.small g (List.mem_append_left _ hg) hh
     ·rw [List.mem_singleton.1 hg] at hh ⊢
      by_cases e0:cur=[]
      ·subst e0;intro p hp q hq;simp at hp hq;rw [h1 p hp,h1 q hq]
      ·exfalso;apply hc;refine ⟨e0,?_⟩;rw [List.length_append] at hh;omega
   obtain ⟨o,c,e1,e2,e3,e4⟩:=V8 n rest out (cur++run) hd hG
   refine ⟨o,c,e1,e2,by rw [e3];simp [List.append_assoc],fun e=>?_⟩
   have:=e2.cur0 e
   rw [this,e] at e3
   simp at e3
   exact absurd e3.2.2.1 hne
theorem Xm {s:List It} (cells:Int) (h:Srt s):∃ o c,vu s cells=o++[c]/\Grs (Xz cells) o c []/\o.flatten++c=s/\(c=[]->s=[]):=by obtain ⟨o,c,e1,e2,e3,e4⟩:=V8 (half:=Xz cells) s.length s [] [] (Nat.le_refl _) ⟨by simpa using h,by simp,by simp,by simp,by simp,by simp⟩;exact ⟨o,c,e1,e2,by simpa using e3,e4⟩
theorem Yf {s:List It} (cells:Int) (h:Srt s):(vu s cells).flatten=s:=by obtain ⟨o,c,e,-,h2,-⟩:=Xm cells h;rw [e,<- h2];simp
theorem q6k {s:List It} (cells:Int) (h:Srt s):1<=(vu s cells).length:=by obtain ⟨o,c,e,-⟩:=Xm cells h;rw [e];simp
theorem Yh {s:List It} (cells:Int) (h:Srt s) (hs:s≠[]):∀ g∈vu s cells,g≠[]:=by
 obtain ⟨o,c,e,hg,-,h2⟩:=Xm cells h;rw [e];intro g hm;rcases List.mem_append.1 hm with hm | hm
 ·exact hg.full g hm
 ·rw [List.mem_singleton.1 hm];exact fun e=>hs (h2 e)
theorem q0i {s:List It} (cells:Int) (h:Srt s):(vu s cells).Pairwise fun a b=>∀ x∈a,∀ y∈b,x.k<y.k:=by obtain ⟨o,c,e,hg,-⟩:=Xm cells h;rw [e];exact hg.apart
theorem U0 {s:List It} (cells:Int) (h:Srt s) {i j:Nat} {a b:List It} (hij:i<j) (ha:(vu s cells)[i]? = some a) (hb:(vu s cells)[j]? = some b):∀ x∈a,∀ y∈b,x.k<y.k:=by obtain ⟨h1,rfl⟩:=List.getElem?_eq_some_iff.1 ha;obtain ⟨h2,rfl⟩:=List.getElem?_eq_some_iff.1 hb;exact List.pairwise_iff_getElem.1 (q0i cells h) i j h1 h2 hij
theorem Ju (least:Int) {gs:List (List It)} (h:gs≠[]):(xx least gs)[0]? = some least:=by
 cases gs with
 | nil=>exact absurd rfl h
 | cons g gs=>rfl
theorem Jo (least:Int) {gs:List (List It)} {i:Nat} {g:List It} (h:gs[i+1]? = some g):(xx least gs)[i+1]? = some ((g.head?.map It.k).getD 0):=by
 cases gs with
 | nil=>simp at h
 | cons a gs =>
  rw [List.getElem?_cons_succ] at h;show (gs.map fun g=>(g.head?.map It.k).getD 0)[i]? = _;rw [List.getElem?_map,h];rfl
theorem q73 {s:List It} (cells least:Int) (h:Srt s) (hl:∀ x∈s,least<=x.k) {i:Nat} {a b:List It} {m:Int} (ha:(vu s cells)[i]? = some a) (hb:(vu s cells)[i+1]? = some b) (hm:(xx least (vu s cells))[i]? = some m) :
  ∃ x y,a.head? = some x/\b.head? = some y/\(xx least (vu s cells))[i+1]? = some y.k/\m<y.k:=by
 have hs:s≠[]:=fun e=>by subst e;have:(vu ([]:List It) cells).length=1:=rfl;have:=(List.getElem?_eq_some_iff.1 hb).1;omega
 have hfa:=Yh cells h hs a (List.mem_of_getElem? ha);have hfb:=Yh cells h hs b (List.mem_of_getElem? hb);obtain ⟨x,a',rfl⟩:=List.exists_cons_of_ne_nil hfa;obtain ⟨y,b',rfl⟩:=List.exists_cons_of_ne_nil hfb;have hxy:=U0 cells h (Nat.lt_succ_self i) ha hb x Ma y Ma;refine ⟨x,y,rfl,rfl,by rw [Jo least hb];rfl,?_⟩;cases i with
 | zero =>
  rw [Ju least (fun e=>by rw [e] at ha;simp at ha)] at hm;obtain rfl:=qj hm
  have hx:x∈s:=by rw [<- Yf cells h];exact List.mem_flatten.2 ⟨_,List.mem_of_getElem? ha,by simp⟩
  have:=hl x hx;omega
 | succ i =>
  rw [Jo least ha] at hm;obtain rfl:=qj hm;exact hxy
end Go.Proofs.YtbddhncgemeohaaGreatDoor.Mx
