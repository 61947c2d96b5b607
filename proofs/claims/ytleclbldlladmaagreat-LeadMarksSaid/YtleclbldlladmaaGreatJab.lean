/- Parts. -/
import Derived.Test.YtleclbldlladmaaGreatJaa
import Derived.Test.YtleclbldlladmaaGreatVbd
import Derived.Test.YtleclbldlladmaaGreatVbl
import Derived.Test.YtleclbldlladmaaGreatVbe
import Derived.Test.YtleclbldlladmaaGreatVbi
import Derived.Test.YtleclbldlladmaaGreatVbn
set_option linter.unusedVariables false
set_option linter.unusedSimpArgs false
set_option maxRecDepth 100000
namespace Go.Proofs.YtleclbldlladmaaGreat.Wd
open Go.RowKit Go.Proofs.YtleclbldlladmaaGreat.Ar Go.Proofs.YtleclbldlladmaaGreat.Og Go.Proofs.YtleclbldlladmaaGreat.Ref Go.Proofs.YtleclbldlladmaaGreat.Mx Go.Proofs.YtleclbldlladmaaGreat.Op10
theorem blk_lt {w:World} {α:Type} {f:α→List Value} {v:Value} {xs:List α} (h:Sq f w v xs) (hne:xs≠[]):∀ k,k∈v.ownBlock.toList→k<w.heap.size:=Qx h hne
theorem scr_in {w:World} {c:Cf} {rs:List (List O)} {ss:List Sv} {ps ds:List Int} {vo vp vd:Value} (h1:Rws w vo rs ss) (h2:Law.Ints w .i64 vp ps) (h3:Sq fI w vp ps) (h4:Law.Ints w .i64 vd ds) (h5:Sq fI w vd ds) :
  q3s w (.agg #[.int .i64 c.t,.int .i64 c.c,.int .i64 c.wd,.int .i64 c.v,vo,vp,vd]) c rs ps ds vo vp vd ss (List.range w.heap.size):=by
 refine ⟨rfl,⟨vo,vp,vd,rfl,h1.r,h2,h4⟩,⟨h1.sq,h1.len,fun i s r e1 e2=>⟨h1.row i s r e1 e2,fun hne k hk=>List.mem_range.2 (blk_lt (h1.row i s r e1 e2) hne k hk)⟩,fun hne k hk=>List.mem_range.2 (blk_lt h1.sq (fun e=>hne (by have:=h1.len;rw [e] at this;exact List.eq_nil_of_length_eq_zero this.symm)) k hk)⟩,h5,fun hne k hk=>List.mem_range.2 (blk_lt h5 hne k hk),h3,fun k hk=>List.mem_range.1 hk⟩
end Go.Proofs.YtleclbldlladmaaGreat.Wd
namespace Go.Proofs.YtleclbldlladmaaGreat.Mx
open Go.RowKit Go.Proofs.YtleclbldlladmaaGreat.Ar Go.Proofs.YtleclbldlladmaaGreat.Ref Go.Proofs.YtleclbldlladmaaGreat.Vw Go.Proofs.YtleclbldlladmaaGreat.Ch Go.Proofs.YtleclbldlladmaaGreat.Rf
section
variable {c:Cf} {g:Gst} {l:List Int}
theorem walkW_pth (hc:c.Ok) (h:OkG c g l) {n:Nat} (hn:c.c=(n:Int)):∀ (L:List Int) (k:Nat) (a:Int) (acc:List Int),Pth g a L→(∀ x∈acc,∀ y∈L,x≠y)→L.length<k→Kl (qw l) l.length n k a acc=acc++L
 | [],k,a,acc,p,_,hk=>by
  obtain ⟨j,rfl⟩:∃ j,k=j+1:=⟨k - 1,by simp at hk;omega⟩;unfold Kl;rw [qf (.inl p),List.append_nil]
 | x :: r,k,a,acc,p,hd,hk=>by
  obtain ⟨j,rfl⟩:∃ j,k=j+1:=⟨k - 1,by simp at hk;omega⟩
  have ap:=p.apart hc h
  obtain ⟨rfl,kx,p,q,q2⟩:=p
  have hb:=Wm hc h kx
  unfold Kl
  rw [qd]
  ·rw [h.rel.F _ kx 2 A0e (by have:=xm hc;omega),show atW (g.M.F a 2)=g.M.F a 2 / 2 from rfl,walkW_pth hc h hn r j _ (acc++[a]) p ?_ (by simp at hk;omega),List.append_assoc];rfl
   intro y hy z hz
   rcases List.mem_append.1 hy with h' | h'
   ·exact hd y h' z (by simp [hz])
   ·simp at h';subst h'
    exact (List.pairwise_cons.1 ap).1 z hz
  ·rintro (e | e | e)
   ·have:=Rel.low hc h kx;have:=hc.t1;omega
   ·rw [R6 hc h hn kx] at e;cases e
   ·exact hd a e a A0h rfl
theorem Chn.q93 (hc:c.Ok) (h:OkG c g l) {L:List Int} (C:Chn c g l L) {n:Nat} (hn:c.c=(n:Int)):Rf.q93 (qw l) l.length n c.t=L:=by have hl:=C.len hc h hn;obtain ⟨a,ha,e1,e2⟩:=h.ki.hd;unfold Rf.q93;rw [show (9:Int)+c.t=xn c+2 by unfold xn;omega,h.rel.hn,show atW g.M.hn=g.M.hn / 2 from rfl,walkW_pth hc h hn L _ _ [] C.p A0h A0e];rfl
end
end Go.Proofs.YtleclbldlladmaaGreat.Mx
