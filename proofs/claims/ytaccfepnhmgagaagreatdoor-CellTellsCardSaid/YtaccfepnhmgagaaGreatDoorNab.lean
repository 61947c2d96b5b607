/- Parts. -/
import Derived.Test.YtaccfepnhmgagaaGreatDoorVam
import Derived.Test.YtaccfepnhmgagaaGreatDoorVav
import Derived.Test.YtaccfepnhmgagaaGreatDoorVbd
import Derived.Test.YtaccfepnhmgagaaGreatDoorVbl
import Derived.Test.YtaccfepnhmgagaaGreatDoorVbe
import Derived.Test.YtaccfepnhmgagaaGreatDoorNaa
set_option linter.unusedVariables false
set_option linter.unusedSimpArgs false
set_option maxRecDepth 100000
namespace Go.Proofs.YtaccfepnhmgagaaGreatDoor.Mx
open Go.RowKit Go.Proofs.YtaccfepnhmgagaaGreatDoor.Ar
set_option linter.unusedVariables false
set_option linter.unusedSimpArgs false
theorem Gs.set {w:World} {ss:List Sv} {gs:List (List It)} (h:Gs w ss gs) {s:Sv} {g:List It} (hs:Sq fT w s.v g) (n:Nat):Gs w (ss.set n s) (gs.set n g):=by
 refine ⟨by simp [h.1],fun i t k e1 e2=>?_⟩
 by_cases hi:i=n
 ·subst hi
  have h1:=(List.getElem?_eq_some_iff.1 e1).1
  have h2:=(List.getElem?_eq_some_iff.1 e2).1
  rw [List.length_set] at h1 h2
  rw [List.getElem?_set_self h1] at e1
  rw [List.getElem?_set_self h2] at e2
  cases e1;cases e2;exact hs
 ·rw [List.getElem?_set_ne (fun e=>hi e.symm)] at e1 e2
  exact h.2 i t k e1 e2
end Go.Proofs.YtaccfepnhmgagaaGreatDoor.Mx
namespace Go.Proofs.YtaccfepnhmgagaaGreatDoor.Mx
open Go.RowKit Go.Proofs.YtaccfepnhmgagaaGreatDoor.Ar Go.Proofs.YtaccfepnhmgagaaGreatDoor.Ref Go.Proofs.YtaccfepnhmgagaaGreatDoor.Og Go.Proofs.YtaccfepnhmgagaaGreatDoor.Mp
set_option linter.unusedVariables false
set_option linter.unusedSimpArgs false
section
variable {α:Type} {f:α→List Value} {sz:Nat}
end
theorem FrO.fr {W w:World} (h:FrO W.heap.size W w):Fr [] W w:=by obtain ⟨S,h1,h2⟩:=h;exact (Fr.refl [] W).own h2 h1
end Go.Proofs.YtaccfepnhmgagaaGreatDoor.Mx
namespace Go.Proofs.YtaccfepnhmgagaaGreatDoor.Wd
open Go.RowKit Go.Proofs.YtaccfepnhmgagaaGreatDoor.Ar Go.Proofs.YtaccfepnhmgagaaGreatDoor.Og Go.Proofs.YtaccfepnhmgagaaGreatDoor.Ref Go.Proofs.YtaccfepnhmgagaaGreatDoor.Mx Go.Proofs.YtaccfepnhmgagaaGreatDoor.Op10
set_option linter.unusedVariables false
set_option linter.unusedSimpArgs false
theorem blk_lt {w:World} {α:Type} {f:α→List Value} {v:Value} {xs:List α} (h:Sq f w v xs) (hne:xs≠[]):∀ k,k∈v.ownBlock.toList→k<w.heap.size:=Qy h hne
theorem scr_in {w:World} {c:Cf} {rs:List (List O)} {ss:List Sv} {ps ds:List Int} {vo vp vd:Value} (h1:Rws w vo rs ss) (h2:Law.Ints w .i64 vp ps) (h3:Sq fI w vp ps) (h4:Law.Ints w .i64 vd ds) (h5:Sq fI w vd ds) :
  q52 w (.agg #[.int .i64 c.t,.int .i64 c.c,.int .i64 c.wd,.int .i64 c.v,vo,vp,vd]) c rs ps ds vo vp vd ss (List.range w.heap.size):=by
 refine ⟨rfl,⟨vo,vp,vd,rfl,h1.r,h2,h4⟩,⟨h1.sq,h1.len,fun i s r e1 e2=>⟨h1.row i s r e1 e2,fun hne k hk=>List.mem_range.2 (blk_lt (h1.row i s r e1 e2) hne k hk)⟩,fun hne k hk=>List.mem_range.2 (blk_lt h1.sq (fun e=>hne (by have:=h1.len;rw [e] at this;exact List.eq_nil_of_length_eq_zero this.symm)) k hk)⟩,h5,fun hne k hk=>List.mem_range.2 (blk_lt h5 hne k hk),h3,fun k hk=>List.mem_range.1 hk⟩
end Go.Proofs.YtaccfepnhmgagaaGreatDoor.Wd
namespace Go.Proofs.YtaccfepnhmgagaaGreatDoor.Mx
open Go.RowKit Go.Proofs.YtaccfepnhmgagaaGreatDoor.Ar Go.Proofs.YtaccfepnhmgagaaGreatDoor.Ref Go.Proofs.YtaccfepnhmgagaaGreatDoor.Og Go.Proofs.YtaccfepnhmgagaaGreatDoor.Mp
set_option linter.unusedVariables false
set_option linter.unusedSimpArgs false
theorem pk_len (l:List Int) (p v:Int):(yl l p v).length=l.length:=by unfold yl;split <;> simp
def Ln (n:Nat) (s:St):Prop:=s.l.length=n
theorem ln_load {n:Nat} {s:St} (h:Ln n s) (p:Int):Ln n (s.load p):=h
theorem ln_store {n:Nat} {s:St} (h:Ln n s) (p v:Int):Ln n (s.store p v):=(pk_len _ _ _).trans h
theorem ln_add {n:Nat} {s:St} (h:Ln n s) (p v:Int):Ln n (s.add p v):=(pk_len _ _ _).trans h
theorem ln_swap {n:Nat} {s:St} (h:Ln n s) (p o v:Int):Ln n (s.swap p o v):=by
 unfold St.swap;split
 ·exact (pk_len _ _ _).trans h
 ·exact h
theorem ln_wk {n:Nat} {s:St} (h:Ln n s) (x:Wk):Ln n (x.step s).2:=by unfold Wk.step;split <;> exact h
theorem ln_cl {n:Nat} {s:St} (h:Ln n s) (x:Cl):Ln n (x.step s).2:=by
 unfold Cl.step Cl.act;split
 ·simp only;repeat' split
  all_goals first | exact ln_load h _ | exact ln_store h _ _ | exact ln_add h _ _ | exact ln_swap h _ _ _
 ·exact h
theorem ln_lk {n:Nat} {s:St} (h:Ln n s) (x:Lok):Ln n (x.step s).2:=by
 unfold Lok.step Lok.act;split
 ·simp only;repeat' split
  all_goals first | exact ln_load h _ | exact ln_swap h _ _ _
 ·exact h
theorem ln_km {n:Nat} {s:St} (h:Ln n s) (x:Km):Ln n (x.step s).2:=by
 unfold Km.step Km.act;split
 ·simp only;repeat' split
  all_goals first | exact ln_load h _ | exact ln_store h _ _ | exact ln_add h _ _ | exact ln_swap h _ _ _
 ·exact h
theorem ln_nd {n:Nat} {s:St} (h:Ln n s) (x:Nd):Ln n (x.step s).2:=by
 unfold Nd.step Nd.act;split
 ·simp only;repeat' split
  all_goals first | exact ln_load h _ | exact ln_add h _ _ | exact ln_swap h _ _ _
 ·exact h
theorem ln_sl {n:Nat} {s:St} (h:Ln n s) (x:Sl):Ln n (x.step s).2:=by
 unfold Sl.step Sl.act;split
 ·simp only;repeat' split
  all_goals first | exact ln_load h _ | exact ln_store h _ _ | exact ln_swap h _ _ _
 ·exact h
theorem ln_ld {n:Nat} {s:St} (h:Ln n s) (x:Ld):Ln n (x.step s).2:=by
 unfold Ld.step Ld.act;split
 ·simp only;repeat' split
  all_goals first | exact ln_load h _ | exact ln_swap h _ _ _
 ·exact h
theorem ln_sp {n:Nat} {s:St} (h:Ln n s) (x:Sp):Ln n (x.step s).2:=by
 unfold Sp.step Sp.act;split
 ·simp only;repeat' split
  all_goals first | exact ln_load h _ | exact ln_store h _ _ | exact ln_swap h _ _ _
 ·exact h
theorem ln_bd {n:Nat} {s:St} (h:Ln n s) (x:Bd):Ln n (x.step s).2:=by
 unfold Bd.step
 repeat' split
 all_goals first | exact ln_load h _ | exact ln_store h _ _ | exact ln_add h _ _ | exact ln_swap h _ _ _ | exact h
theorem ln_md {n:Nat} {s:St} (h:Ln n s) (x:Md):Ln n (x.step s).2:=by
 unfold Md.step
 split
 ·exact h
 ·simp only
  repeat' split
  all_goals first | exact h | exact ln_ld h _ | exact ln_sl h _ | exact ln_load h _ | exact ln_nd h _ | exact ln_bd h _ | exact ln_sp h _
theorem ln_pt {n:Nat} {s:St} (h:Ln n s) (x:Pt):Ln n (x.step s).2:=by
 unfold Pt.step
 repeat' split
 all_goals first | exact h | exact ln_md h _ | exact ln_cl h _ | exact ln_wk h _
theorem ln_gt {n:Nat} {s:St} (h:Ln n s) (x:Gt):Ln n (x.step s).2:=by
 unfold Gt.step
 repeat' split
 all_goals first | exact h | exact ln_lk h _ | exact ln_wk h _
theorem ln_sn {n:Nat} {s:St} (h:Ln n s) (x:Sn):Ln n (x.step s).2:=by
 unfold Sn.step
 repeat' split
 all_goals first | exact h | exact ln_km h _ | exact ln_wk h _ | exact ln_lk h _ | exact ln_load h _ | exact ln_store h _ _
theorem ln_steps {n:Nat} {m:Mc} (h:Ln n m.a) (t:Int) (k:Nat):Ln n (m.steps t k).a:=by
 unfold Mc.steps
 simp only
 split
 ·exact ln_pt h _
 ·split
  ·exact ln_gt h _
  ·split
   ·exact ln_sn h _
   ·exact h
theorem ln_notes {n:Nat} {m:Mc} (h:Ln n m.a):Ln n m.notes.a:=by
 have e:m.notes.a=m.a:=by
  unfold Mc.notes
  simp only
  split
  ·split
   ·simp only;split <;> rfl
   ·split <;> rfl
  ·split <;> rfl
 rw [e];exact h
theorem ln_pick {n:Nat} {m:Mc} (h:Ln n m.a) (t:Int):Ln n (m.pick t).a:=by
 unfold Mc.pick
 split
 ·exact h
 ·simp only
  have h1:Ln n (if (m.th t).busy=true then m else m.begins t).a:=by split <;> exact h
  generalize (if (m.th t).busy=true then m else m.begins t)=m1 at *
  split
  ·have h2:=ln_steps h1 t (by assumption)
   split
   ·exact ln_notes h2
   ·exact h2
  ·exact h1
theorem ln_run {n:Nat}:∀ (ps:List Int) (m:Mc),Ln n m.a→Ln n (ps.foldl Mc.pick m).a
 | [],_,h=>h
 | p :: ps,m,h=>ln_run ps _ (ln_pick h p)
theorem runP_len {c:Cf} (hc:c.Ok) (rs:List (List O)) (ds ps:List Int):((q7w c rs ds ps).a.l.length:Int)=c.wd:=by
 have h:=ln_run ps (Mc.new c rs ds) (n:=c.wd.toNat) (Pl.Vx (wd:=c.wd) hc.t1 hc.t8 (by have:=hc.c2;have:=hc.t1;omega) hc.top).1
 have e:(q7w c rs ds ps).a.l.length=c.wd.toNat:=h
 have:=hc.w1
 omega
end Go.Proofs.YtaccfepnhmgagaaGreatDoor.Mx
