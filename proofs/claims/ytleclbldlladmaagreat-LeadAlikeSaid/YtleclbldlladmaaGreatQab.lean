/- Parts. -/
import Derived.Test.YtleclbldlladmaaGreatQaa
import Derived.Test.YtleclbldlladmaaGreatVbd
import Derived.Test.YtleclbldlladmaaGreatVbl
import Derived.Test.YtleclbldlladmaaGreatVbe
import Derived.Test.YtleclbldlladmaaGreatVbi
import Derived.Test.YtleclbldlladmaaGreatVbn
set_option linter.unusedVariables false
set_option linter.unusedSimpArgs false
set_option maxRecDepth 100000
namespace Go.Proofs.YtleclbldlladmaaGreat.Wd
open Go.RowKit Go.Proofs.YtleclbldlladmaaGreat.Ar Go.Proofs.YtleclbldlladmaaGreat.Og Go.Proofs.YtleclbldlladmaaGreat.Ref Go.Proofs.YtleclbldlladmaaGreat.Mx Go.Proofs.YtleclbldlladmaaGreat.Op10
theorem blk_lt {w:World} {α:Type} {f:α→List Value} {v:Value} {xs:List α} (h:Sq f w v xs) (hne:xs≠[]):∀ k,k∈v.ownBlock.toList→k<w.heap.size:=Qx h hne
theorem scr_in {w:World} {c:Cf} {rs:List (List O)} {ss:List Sv} {ps ds:List Int} {vo vp vd:Value} (h1:Rws w vo rs ss) (h2:Law.Ints w .i64 vp ps) (h3:Sq fI w vp ps) (h4:Law.Ints w .i64 vd ds) (h5:Sq fI w vd ds) :
  q3s w (.agg #[.int .i64 c.t,.int .i64 c.c,.int .i64 c.wd,.int .i64 c.v,vo,vp,vd]) c rs ps ds vo vp vd ss (List.range w.heap.size):=by
 refine ⟨rfl,⟨vo,vp,vd,rfl,h1.r,h2,h4⟩,⟨h1.sq,h1.len,fun i s r e1 e2=>⟨h1.row i s r e1 e2,fun hne k hk=>List.mem_range.2 (blk_lt (h1.row i s r e1 e2) hne k hk)⟩,fun hne k hk=>List.mem_range.2 (blk_lt h1.sq (fun e=>hne (by have:=h1.len;rw [e] at this;exact List.eq_nil_of_length_eq_zero this.symm)) k hk)⟩,h5,fun hne k hk=>List.mem_range.2 (blk_lt h5 hne k hk),h3,fun k hk=>List.mem_range.1 hk⟩
end Go.Proofs.YtleclbldlladmaaGreat.Wd
namespace Go.Proofs.YtleclbldlladmaaGreat.Mx
open Go.RowKit Go.Proofs.YtleclbldlladmaaGreat.Ar Go.Proofs.YtleclbldlladmaaGreat.Ref Go.Proofs.YtleclbldlladmaaGreat.Og Go.Proofs.YtleclbldlladmaaGreat.Mp
theorem pk_len (l:List Int) (p v:Int):(yl l p v).length=l.length:=by unfold yl;split <;> simp
def Ln (n:Nat) (s:St):Prop:=s.l.length=n
theorem ln_load {n:Nat} {s:St} (h:Ln n s) (p:Int):Ln n (s.load p):=h
theorem ln_store {n:Nat} {s:St} (h:Ln n s) (p v:Int):Ln n (s.store p v):=(pk_len _ _ _).trans h
theorem ln_add {n:Nat} {s:St} (h:Ln n s) (p v:Int):Ln n (s.add p v):=(pk_len _ _ _).trans h
theorem ln_swap {n:Nat} {s:St} (h:Ln n s) (p o v:Int):Ln n (s.swap p o v):=by
 unfold St.swap;split
 ·exact (pk_len _ _ _).trans h
 ·exact h
theorem ln_wk {n:Nat} {s:St} (h:Ln n s) (x:Wk):Ln n (x.step s).2:=by unfold Wk.step;split <;> exact h
theorem ln_cl {n:Nat} {s:St} (h:Ln n s) (x:Cl):Ln n (x.step s).2:=by
 unfold Cl.step Cl.act;split
 ·exact A02
 ·exact h
theorem ln_lk {n:Nat} {s:St} (h:Ln n s) (x:Lok):Ln n (x.step s).2:=by
 unfold Lok.step Lok.act;split
 ·exact A06
 ·exact h
theorem ln_km {n:Nat} {s:St} (h:Ln n s) (x:Km):Ln n (x.step s).2:=by
 unfold Km.step Km.act;split
 ·exact A02
 ·exact h
theorem ln_nd {n:Nat} {s:St} (h:Ln n s) (x:Nd):Ln n (x.step s).2:=by
 unfold Nd.step Nd.act;split
 ·simp only;repeat' split
  all_goals first | exact ln_load h _ | exact ln_add h _ _ | exact ln_swap h _ _ _
 ·exact h
theorem ln_sl {n:Nat} {s:St} (h:Ln n s) (x:Sl):Ln n (x.step s).2:=by
 unfold Sl.step Sl.act;split
 ·exact A04
 ·exact h
theorem ln_ld {n:Nat} {s:St} (h:Ln n s) (x:Ld):Ln n (x.step s).2:=by
 unfold Ld.step Ld.act;split
 ·exact A06
 ·exact h
theorem ln_sp {n:Nat} {s:St} (h:Ln n s) (x:Sp):Ln n (x.step s).2:=by
 unfold Sp.step Sp.act;split
 ·exact A04
 ·exact h
theorem ln_bd {n:Nat} {s:St} (h:Ln n s) (x:Bd):Ln n (x.step s).2:=by
 unfold Bd.step;repeat' split
 all_goals first | exact ln_load h _ | exact ln_store h _ _ | exact ln_add h _ _ | exact ln_swap h _ _ _ | exact h
theorem ln_md {n:Nat} {s:St} (h:Ln n s) (x:Md):Ln n (x.step s).2:=by
 unfold Md.step;split
 ·exact h
 ·simp only;repeat' split
  all_goals first | exact h | exact ln_ld h _ | exact ln_sl h _ | exact ln_load h _ | exact ln_nd h _ | exact ln_bd h _ | exact ln_sp h _
theorem ln_pt {n:Nat} {s:St} (h:Ln n s) (x:Pt):Ln n (x.step s).2:=by
 unfold Pt.step;repeat' split
 all_goals first | exact h | exact ln_md h _ | exact ln_cl h _ | exact ln_wk h _
theorem ln_gt {n:Nat} {s:St} (h:Ln n s) (x:Gt):Ln n (x.step s).2:=by
 unfold Gt.step;repeat' split
 all_goals first | exact h | exact ln_lk h _ | exact ln_wk h _
theorem ln_sn {n:Nat} {s:St} (h:Ln n s) (x:Sn):Ln n (x.step s).2:=by
 unfold Sn.step;repeat' split
 all_goals first | exact h | exact ln_km h _ | exact ln_wk h _ | exact ln_lk h _ | exact ln_load h _ | exact ln_store h _ _
theorem ln_steps {n:Nat} {m:Mc} (h:Ln n m.a) (t:Int) (k:Nat):Ln n (m.steps t k).a:=by
 unfold Mc.steps;simp only;split
 ·exact ln_pt h _
 ·split
  ·exact ln_gt h _
  ·split
   ·exact ln_sn h _
   ·exact h
theorem ln_notes {n:Nat} {m:Mc} (h:Ln n m.a):Ln n m.notes.a:=by
 have e:m.notes.a=m.a:=by
  unfold Mc.notes;simp only;split
  ·split
   ·simp only;split <;> rfl
   ·split <;> rfl
  ·split <;> rfl
 rw [e];exact h
theorem ln_pick {n:Nat} {m:Mc} (h:Ln n m.a) (t:Int):Ln n (m.pick t).a:=by
 unfold Mc.pick;split
 ·exact h
 ·simp only;have h1:Ln n (if (m.th t).busy=true then m else m.begins t).a:=by split <;> exact h
  generalize (if (m.th t).busy=true then m else m.begins t)=m1 at *;split
  ·have h2:=ln_steps h1 t (by assumption);split
   ·exact ln_notes h2
   ·exact h2
  ·exact h1
theorem ln_run {n:Nat}:∀ (ps:List Int) (m:Mc),Ln n m.a→Ln n (ps.foldl Mc.pick m).a
 | [],_,h=>h
 | p :: ps,m,h=>ln_run ps _ (ln_pick h p)
theorem runP_len {c:Cf} (hc:c.Ok) (rs:List (List O)) (ds ps:List Int):((q7n c rs ds ps).a.l.length:Int)=c.wd:=by have h:=ln_run ps (Mc.new c rs ds) (n:=c.wd.toNat) (Pl.Vp (wd:=c.wd) hc.t1 hc.t8 (by have:=hc.c2;have:=hc.t1;omega) hc.top).1;have e:(q7n c rs ds ps).a.l.length=c.wd.toNat:=h;have:=hc.w1;omega
end Go.Proofs.YtleclbldlladmaaGreat.Mx
namespace Go.Proofs.YtleclbldlladmaaGreat.Mx
open Go.RowKit Go.Proofs.YtleclbldlladmaaGreat.Ar Go.Proofs.YtleclbldlladmaaGreat.Ref Go.Proofs.YtleclbldlladmaaGreat.Vw Go.Proofs.YtleclbldlladmaaGreat.Ch Go.Proofs.YtleclbldlladmaaGreat.Rf
section
variable {c:Cf} {g:Gst} {l:List Int}
theorem walkW_pth (hc:c.Ok) (h:OkG c g l) {n:Nat} (hn:c.c=(n:Int)):∀ (L:List Int) (k:Nat) (a:Int) (acc:List Int),Pth g a L→(∀ x∈acc,∀ y∈L,x≠y)→L.length<k→Kl (qw l) l.length n k a acc=acc++L
 | [],k,a,acc,p,_,hk=>by
  obtain ⟨j,rfl⟩:∃ j,k=j+1:=⟨k - 1,by simp at hk;omega⟩;unfold Kl;rw [qf (.inl p),List.append_nil]
 | x :: r,k,a,acc,p,hd,hk=>by
  obtain ⟨j,rfl⟩:∃ j,k=j+1:=⟨k - 1,by simp at hk;omega⟩
  have ap:=p.apart hc h
  obtain ⟨rfl,kx,p,q,q2⟩:=p
  have hb:=Wm hc h kx
  unfold Kl
  rw [qd]
  ·rw [h.rel.F _ kx 2 A0e (by have:=xm hc;omega),show atW (g.M.F a 2)=g.M.F a 2 / 2 from rfl,walkW_pth hc h hn r j _ (acc++[a]) p ?_ (by simp at hk;omega),List.append_assoc];rfl
   intro y hy z hz
   rcases List.mem_append.1 hy with h' | h'
   ·exact hd y h' z (by simp [hz])
   ·simp at h';subst h'
    exact (List.pairwise_cons.1 ap).1 z hz
  ·rintro (e | e | e)
   ·have:=Rel.low hc h kx;have:=hc.t1;omega
   ·rw [R6 hc h hn kx] at e;cases e
   ·exact hd a e a A0h rfl
theorem Chn.q93 (hc:c.Ok) (h:OkG c g l) {L:List Int} (C:Chn c g l L) {n:Nat} (hn:c.c=(n:Int)):Rf.q93 (qw l) l.length n c.t=L:=by have hl:=C.len hc h hn;obtain ⟨a,ha,e1,e2⟩:=h.ki.hd;unfold Rf.q93;rw [show (9:Int)+c.t=xn c+2 by unfold xn;omega,h.rel.hn,show atW g.M.hn=g.M.hn / 2 from rfl,walkW_pth hc h hn L _ _ [] C.p A0h A0e];rfl
end
end Go.Proofs.YtleclbldlladmaaGreat.Mx
