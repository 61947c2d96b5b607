/- Parts. -/
import Derived.Test.YtleclbldlladmaaGreatVab
import Derived.Test.YtleclbldlladmaaGreatVax
set_option linter.unusedVariables false
set_option linter.unusedSimpArgs false
set_option maxRecDepth 100000
set_option maxHeartbeats 12800000
namespace Go.Proofs.YtleclbldlladmaaGreat.Mx
structure Grs (half:Int) (out:List (List It)) (cur l:List It):Prop where
 srt:Srt (out.flatten++cur++l)
 full:∀ g∈out,g≠[]
 cur0:cur=[]->out=[]
 apart:(out++[cur]).Pairwise fun a b=>∀ x∈a,∀ y∈b,x.k<y.k
 ahead:∀ x∈out.flatten++cur,∀ y∈l,x.k<y.k
 small:∀ g∈out++[cur],half<(g.length:Int)->∀ x∈g,∀ y∈g,x.k=y.k
theorem U6 {x:It}:∀ {r:List It},(∀ y∈r,leT x y)->Srt r->∀ y∈r.dropWhile (fun y=>y.k == x.k),x.k<y.k
 | [],_,_,y,hy=>by simp at hy
 | z :: r,h1,h2,y,hy=>by
  rw [List.dropWhile_cons] at hy;by_cases hz:(z.k == x.k)=true
  ·rw [qf hz] at hy;exact U6 (fun y hy=>h1 y (by simp [hy])) (Vl.1 h2).2 y hy
  ·rw [qd hz] at hy;have hne:z.k≠x.k:=by simpa using hz
   have hxz:=h1 z Lc
   have hzy:z.k<=y.k:=by
    rcases List.mem_cons.1 hy with rfl | hy
    ·omega
    ·have:=(Vl.1 h2).1 y hy;unfold leT at this;omega
   unfold leT at hxz;omega
theorem q2o {x:It}:∀ {r:List It},∀ y∈r.takeWhile (fun y=>y.k == x.k),y.k=x.k
 | [],y,hy=>by simp at hy
 | z :: r,y,hy=>by
  rw [List.takeWhile_cons] at hy;by_cases hz:(z.k == x.k)=true
  ·rw [qf hz] at hy;rcases List.mem_cons.1 hy with rfl | hy
   ·simpa using hz
   ·exact q2o y hy
  ·rw [qd hz] at hy;simp at hy
theorem V4 {half:Int}:∀ (n:Nat) (l:List It) (out:List (List It)) (cur:List It),l.length<=n->Grs half out cur l ->
  ∃ o c,jy half n l out cur=o++[c]/\Grs half o c []/\o.flatten++c=out.flatten++cur++l/\(c=[]->l=[])
 | 0,l,out,cur,hn,h=>by
  have:l=[]:=List.eq_nil_of_length_eq_zero Lb;subst this;exact ⟨out,cur,rfl,h,by simp,fun _=>rfl⟩
 | n+1,[],out,cur,hn,h=>⟨out,cur,rfl,h,by simp,fun _=>rfl⟩
 | n+1,x :: r,out,cur,hn,h=>by
  have hl:Srt (x :: r):=q1m h.srt (List.sublist_append_right _ _)
  have h2:=U6 (Vl.1 hl).1 (Vl.1 hl).2
  have h1:∀ y∈x :: r.takeWhile (fun y=>y.k == x.k),y.k=x.k:=fun y hy=>by
   rcases List.mem_cons.1 hy with rfl | hy
   ·rfl
   ·exact q2o y hy
  have he:x :: r=(x :: r.takeWhile (fun y=>y.k == x.k))++r.dropWhile (fun y=>y.k == x.k):=by rw [List.cons_append,List.takeWhile_append_dropWhile]
  have hd:(r.dropWhile (fun y=>y.k == x.k)).length<=n:=by
   have:=congrArg List.length he
   simp only [List.length_cons,List.length_append] at this hn;omega
  have hne:(x :: r.takeWhile (fun y=>y.k == x.k))≠[]:=by simp
  have hs:=h.srt
  have ha:=h.ahead
  rw [he] at hs ha
  show ∃ o c,(if cur≠[]/\half<(cur.length:Int)+((x :: r.takeWhile (fun y=>y.k == x.k)).length:Nat) then jy half n (r.dropWhile (fun y=>y.k == x.k)) (out++[cur]) (x :: r.takeWhile (fun y=>y.k == x.k)) else jy half n (r.dropWhile (fun y=>y.k == x.k)) out (cur++(x :: r.takeWhile (fun y=>y.k == x.k))))=o++[c]/\_
  rw [he]
  generalize (x :: r.takeWhile (fun y=>y.k == x.k))=run at *
  generalize r.dropWhile (fun y=>y.k == x.k)=rest at *
  have hrun:∀ a∈out.flatten++cur,∀ y∈run,a.k<y.k:=fun a ha' y hy=>ha a ha' y (List.mem_append_left _ hy)
  have hrest:∀ a∈out.flatten++cur,∀ y∈rest,a.k<y.k:=fun a ha' y hy=>ha a ha' y (List.mem_append_right _ hy)
  have hrr:∀ a∈run,∀ y∈rest,a.k<y.k:=fun a ha' y hy=>by rw [h1 a ha'];exact h2 y hy
  by_cases hc:cur≠[]/\half<(cur.length:Int)+(run.length:Nat)
  ·rw [qf hc]
   have hG:Grs half (out++[cur]) run rest:=by
    refine ⟨by simpa [List.append_assoc] using hs,?_,fun e=>absurd e hne,?_,?_,?_⟩
    ·intro g hg
     rcases List.mem_append.1 hg with hg | hg
     ·exact h.full g hg
     ·rw [List.mem_singleton.1 hg];exact hc.1
    ·rw [List.pairwise_append]
     refine ⟨h.apart,by simp,fun a ha' b hb=>?_⟩
     rw [List.mem_singleton.1 hb]
     intro p hp q hq
     refine hrun p ?_ q hq
     rcases List.mem_append.1 ha' with hg | hg
     ·exact List.mem_append_left _ (List.mem_flatten.2 ⟨a,hg,hp⟩)
     ·rw [List.mem_singleton.1 hg] at hp;exact List.mem_append_right _ hp
    ·intro p hp q hq
     rcases List.mem_append.1 hp with hp | hp
     ·exact hrest p (by simpa using hp) q hq
     ·exact hrr p hp q hq
    ·intro g hg hh
     rcases List.mem_append.1 hg with hg | hg
     ·exact h.small g hg hh
     ·rw [List.mem_singleton.1 hg];intro p hp q hq;rw [h1 p hp,h1 q hq]
   obtain ⟨o,c,e1,e2,e3,e4⟩:=V4 n rest (out++[cur]) run hd hG
   refine ⟨o,c,e1,e2,by rw [e3];simp [List.append_assoc],fun e=>?_⟩
   have:=e2.cur0 e
   rw [this,e] at e3
   simp at e3
   exact absurd e3.2.2.1 hne
  ·rw [qd hc]
   have hG:Grs half out (cur++run) rest:=by
    refine ⟨by simpa [List.append_assoc] using hs,h.full,fun e=>absurd (List.append_eq_nil_iff.1 e).2 hne,?_,?_,?_⟩
    ·have:=h.apart
     rw [List.pairwise_append] at this ⊢
     refine ⟨this.1,by simp,fun a ha' b hb=>?_⟩
     rw [List.mem_singleton.1 hb]
     intro p hp q hq
     rcases List.mem_append.1 hq with hq | hq
     ·exact this.2.2 a ha' cur Lc p hp q hq
     ·exact hrun p (List.mem_append_left _ (List.mem_flatten.2 ⟨a,ha',hp⟩)) q hq
    ·intro p hp q hq
     rw [<- List.append_assoc] at hp
     rcases List.mem_append.1 hp with hp | hp
     ·exact hrest p hp q hq
     ·exact hrr p hp q hq
    ·intro g hg hh
     rcases List.mem_append.1 hg with hg | hg
     ·exact h.small g (List.mem_append_left _ hg) hh
     ·rw [List.mem_singleton.1 hg] at hh ⊢
      by_cases e0:cur=[]
      ·subst e0;intro p hp q hq;simp at hp hq;rw [h1 p hp,h1 q hq]
      ·exfalso;apply hc;refine ⟨e0,?_⟩;rw [List.length_append] at hh;omega
   obtain ⟨o,c,e1,e2,e3,e4⟩:=V4 n rest out (cur++run) hd hG
   refine ⟨o,c,e1,e2,by rw [e3];simp [List.append_assoc],fun e=>?_⟩
   have:=e2.cur0 e
   rw [this,e] at e3
   simp at e3
   exact absurd e3.2.2.1 hne
theorem Xl {s:List It} (cells:Int) (h:Srt s):∃ o c,xy s cells=o++[c]/\Grs (Xy cells) o c []/\o.flatten++c=s/\(c=[]->s=[]):=by obtain ⟨o,c,e1,e2,e3,e4⟩:=V4 (half:=Xy cells) s.length s [] [] (Nat.le_refl _) ⟨by simpa using h,by simp,by simp,by simp,by simp,by simp⟩;exact ⟨o,c,e1,e2,by simpa using e3,e4⟩
theorem Yi {s:List It} (cells:Int) (h:Srt s):(xy s cells).flatten=s:=by obtain ⟨o,c,e,-,h2,-⟩:=Xl cells h;rw [e,<- h2];simp
theorem q63 {s:List It} (cells:Int) (h:Srt s):1<=(xy s cells).length:=by obtain ⟨o,c,e,-⟩:=Xl cells h;rw [e];simp
theorem Yl {s:List It} (cells:Int) (h:Srt s) (hs:s≠[]):∀ g∈xy s cells,g≠[]:=by
 obtain ⟨o,c,e,hg,-,h2⟩:=Xl cells h;rw [e];intro g hm;rcases List.mem_append.1 hm with hm | hm
 ·exact hg.full g hm
 ·rw [List.mem_singleton.1 hm];exact fun e=>hs (h2 e)
theorem q1a {s:List It} (cells:Int) (h:Srt s):(xy s cells).Pairwise fun a b=>∀ x∈a,∀ y∈b,x.k<y.k:=by obtain ⟨o,c,e,hg,-⟩:=Xl cells h;rw [e];exact hg.apart
theorem Wo {s:List It} (cells:Int) (h:Srt s) {i j:Nat} {a b:List It} (hij:i<j) (ha:(xy s cells)[i]? = some a) (hb:(xy s cells)[j]? = some b):∀ x∈a,∀ y∈b,x.k<y.k:=by obtain ⟨h1,rfl⟩:=List.getElem?_eq_some_iff.1 ha;obtain ⟨h2,rfl⟩:=List.getElem?_eq_some_iff.1 hb;exact List.pairwise_iff_getElem.1 (q1a cells h) i j h1 h2 hij
theorem Ki (least:Int) {gs:List (List It)} (h:gs≠[]):(xg least gs)[0]? = some least:=by
 cases gs with
 | nil=>exact absurd rfl h
 | cons g gs=>rfl
theorem Kg (least:Int) {gs:List (List It)} {i:Nat} {g:List It} (h:gs[i+1]? = some g):(xg least gs)[i+1]? = some ((g.head?.map It.k).getD 0):=by
 cases gs with
 | nil=>simp at h
 | cons a gs =>
  rw [List.getElem?_cons_succ] at h;show (gs.map fun g=>(g.head?.map It.k).getD 0)[i]? = _;rw [List.getElem?_map,h];rfl
theorem q6e {s:List It} (cells least:Int) (h:Srt s) (hl:∀ x∈s,least<=x.k) {i:Nat} {a b:List It} {m:Int} (ha:(xy s cells)[i]? = some a) (hb:(xy s cells)[i+1]? = some b) (hm:(xg least (xy s cells))[i]? = some m) :
  ∃ x y,a.head? = some x/\b.head? = some y/\(xg least (xy s cells))[i+1]? = some y.k/\m<y.k:=by
 have hs:s≠[]:=fun e=>by subst e;have:(xy ([]:List It) cells).length=1:=rfl;have:=(List.getElem?_eq_some_iff.1 hb).1;omega
 have hfa:=Yl cells h hs a (List.mem_of_getElem? ha);have hfb:=Yl cells h hs b (List.mem_of_getElem? hb);obtain ⟨x,a',rfl⟩:=List.exists_cons_of_ne_nil hfa;obtain ⟨y,b',rfl⟩:=List.exists_cons_of_ne_nil hfb;have hxy:=Wo cells h (Nat.lt_succ_self i) ha hb x Lc y Lc;refine ⟨x,y,rfl,rfl,by rw [Kg least hb];rfl,?_⟩;cases i with
 | zero =>
  rw [Ki least (fun e=>by rw [e] at ha;simp at ha)] at hm;obtain rfl:=qi hm
  have hx:x∈s:=by rw [<- Yi cells h];exact List.mem_flatten.2 ⟨_,List.mem_of_getElem? ha,by simp⟩
  have:=hl x hx;omega
 | succ i =>
  rw [Kg least ha] at hm;obtain rfl:=qi hm;exact hxy
end Go.Proofs.YtleclbldlladmaaGreat.Mx
