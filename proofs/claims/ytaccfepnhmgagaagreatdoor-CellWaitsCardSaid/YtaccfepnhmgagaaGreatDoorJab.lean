/- Parts. -/
import Derived.Test.YtaccfepnhmgagaaGreatDoorVam
import Derived.Test.YtaccfepnhmgagaaGreatDoorVav
import Derived.Test.YtaccfepnhmgagaaGreatDoorVbd
import Derived.Test.YtaccfepnhmgagaaGreatDoorVbl
import Derived.Test.YtaccfepnhmgagaaGreatDoorVbe
import Derived.Test.YtaccfepnhmgagaaGreatDoorJaa
import Derived.Test.YtaccfepnhmgagaaGreatDoorVbf
import Derived.Test.YtaccfepnhmgagaaGreatDoorVax
set_option linter.unusedVariables false
set_option linter.unusedSimpArgs false
set_option maxRecDepth 100000
namespace Go.Proofs.YtaccfepnhmgagaaGreatDoor.Mx
open Go.RowKit Go.Proofs.YtaccfepnhmgagaaGreatDoor.Ar
set_option linter.unusedVariables false
set_option linter.unusedSimpArgs false
theorem Gs.set {w:World} {ss:List Sv} {gs:List (List It)} (h:Gs w ss gs) {s:Sv} {g:List It} (hs:Sq fT w s.v g) (n:Nat):Gs w (ss.set n s) (gs.set n g):=by
 refine ⟨by simp [h.1],fun i t k e1 e2=>?_⟩;by_cases hi:i=n
 ·subst hi;have h1:=(List.getElem?_eq_some_iff.1 e1).1;have h2:=(List.getElem?_eq_some_iff.1 e2).1;rw [List.length_set] at h1 h2;rw [List.getElem?_set_self h1] at e1;rw [List.getElem?_set_self h2] at e2;cases e1;cases e2;exact hs
 ·rw [List.getElem?_set_ne (fun e=>hi e.symm)] at e1 e2;exact h.2 i t k e1 e2
end Go.Proofs.YtaccfepnhmgagaaGreatDoor.Mx
namespace Go.Proofs.YtaccfepnhmgagaaGreatDoor.Mx
open Go.RowKit Go.Proofs.YtaccfepnhmgagaaGreatDoor.Ar Go.Proofs.YtaccfepnhmgagaaGreatDoor.Ref Go.Proofs.YtaccfepnhmgagaaGreatDoor.Og Go.Proofs.YtaccfepnhmgagaaGreatDoor.Mp
set_option linter.unusedVariables false
set_option linter.unusedSimpArgs false
section
variable {α:Type} {f:α→List Value} {sz:Nat}
end
theorem FrO.fr {W w:World} (h:FrO W.heap.size W w):Fr [] W w:=by obtain ⟨S,h1,h2⟩:=h;exact (Fr.refl [] W).own h2 h1
end Go.Proofs.YtaccfepnhmgagaaGreatDoor.Mx
namespace Go.Proofs.YtaccfepnhmgagaaGreatDoor.Wd
open Go.RowKit Go.Proofs.YtaccfepnhmgagaaGreatDoor.Ar Go.Proofs.YtaccfepnhmgagaaGreatDoor.Og Go.Proofs.YtaccfepnhmgagaaGreatDoor.Ref Go.Proofs.YtaccfepnhmgagaaGreatDoor.Mx Go.Proofs.YtaccfepnhmgagaaGreatDoor.Op10
set_option linter.unusedVariables false
set_option linter.unusedSimpArgs false
theorem blk_lt {w:World} {α:Type} {f:α→List Value} {v:Value} {xs:List α} (h:Sq f w v xs) (hne:xs≠[]):∀ k,k∈v.ownBlock.toList→k<w.heap.size:=Qy h hne
theorem scr_in {w:World} {c:Cf} {rs:List (List O)} {ss:List Sv} {ps ds:List Int} {vo vp vd:Value} (h1:Rws w vo rs ss) (h2:Law.Ints w .i64 vp ps) (h3:Sq fI w vp ps) (h4:Law.Ints w .i64 vd ds) (h5:Sq fI w vd ds) :
  q52 w (.agg #[.int .i64 c.t,.int .i64 c.c,.int .i64 c.wd,.int .i64 c.v,vo,vp,vd]) c rs ps ds vo vp vd ss (List.range w.heap.size):=by
 refine ⟨rfl,⟨vo,vp,vd,rfl,h1.r,h2,h4⟩,⟨h1.sq,h1.len,fun i s r e1 e2=>⟨h1.row i s r e1 e2,fun hne k hk=>List.mem_range.2 (blk_lt (h1.row i s r e1 e2) hne k hk)⟩,fun hne k hk=>List.mem_range.2 (blk_lt h1.sq (fun e=>hne (by have:=h1.len;rw [e] at this;exact List.eq_nil_of_length_eq_zero this.symm)) k hk)⟩,h5,fun hne k hk=>List.mem_range.2 (blk_lt h5 hne k hk),h3,fun k hk=>List.mem_range.1 hk⟩
end Go.Proofs.YtaccfepnhmgagaaGreatDoor.Wd
namespace Go.Proofs.YtaccfepnhmgagaaGreatDoor.Mx
open Go.RowKit Go.Proofs.YtaccfepnhmgagaaGreatDoor.Ar Go.Proofs.YtaccfepnhmgagaaGreatDoor.Ref Go.Proofs.YtaccfepnhmgagaaGreatDoor.Og Go.Proofs.YtaccfepnhmgagaaGreatDoor.Mp
set_option linter.unusedVariables false
set_option linter.unusedSimpArgs false
theorem pk_len (l:List Int) (p v:Int):(yl l p v).length=l.length:=by unfold yl;split <;> simp
def Ln (n:Nat) (s:St):Prop:=s.l.length=n
theorem ln_load {n:Nat} {s:St} (h:Ln n s) (p:Int):Ln n (s.load p):=h
theorem ln_store {n:Nat} {s:St} (h:Ln n s) (p v:Int):Ln n (s.store p v):=(pk_len _ _ _).trans h
theorem ln_add {n:Nat} {s:St} (h:Ln n s) (p v:Int):Ln n (s.add p v):=(pk_len _ _ _).trans h
theorem ln_swap {n:Nat} {s:St} (h:Ln n s) (p o v:Int):Ln n (s.swap p o v):=by
 unfold St.swap;split
 ·exact (pk_len _ _ _).trans h
 ·exact h
theorem ln_wk {n:Nat} {s:St} (h:Ln n s) (x:Wk):Ln n (x.step s).2:=by unfold Wk.step;split <;> exact h
theorem ln_cl {n:Nat} {s:St} (h:Ln n s) (x:Cl):Ln n (x.step s).2:=by
 unfold Cl.step Cl.act;split
 ·exact Px
 ·exact h
theorem ln_lk {n:Nat} {s:St} (h:Ln n s) (x:Lok):Ln n (x.step s).2:=by
 unfold Lok.step Lok.act;split
 ·exact A06
 ·exact h
theorem ln_km {n:Nat} {s:St} (h:Ln n s) (x:Km):Ln n (x.step s).2:=by
 unfold Km.step Km.act;split
 ·exact Px
 ·exact h
theorem ln_nd {n:Nat} {s:St} (h:Ln n s) (x:Nd):Ln n (x.step s).2:=by
 unfold Nd.step Nd.act;split
 ·simp only;repeat' split
  all_goals first | exact ln_load h _ | exact ln_add h _ _ | exact ln_swap h _ _ _
 ·exact h
theorem ln_sl {n:Nat} {s:St} (h:Ln n s) (x:Sl):Ln n (x.step s).2:=by
 unfold Sl.step Sl.act;split
 ·exact A00
 ·exact h
theorem ln_ld {n:Nat} {s:St} (h:Ln n s) (x:Ld):Ln n (x.step s).2:=by
 unfold Ld.step Ld.act;split
 ·exact A06
 ·exact h
theorem ln_sp {n:Nat} {s:St} (h:Ln n s) (x:Sp):Ln n (x.step s).2:=by
 unfold Sp.step Sp.act;split
 ·exact A00
 ·exact h
theorem ln_bd {n:Nat} {s:St} (h:Ln n s) (x:Bd):Ln n (x.step s).2:=by
 unfold Bd.step;repeat' split
 all_goals first | exact ln_load h _ | exact ln_store h _ _ | exact ln_add h _ _ | exact ln_swap h _ _ _ | exact h
theorem ln_md {n:Nat} {s:St} (h:Ln n s) (x:Md):Ln n (x.step s).2:=by
 unfold Md.step;split
 ·exact h
 ·simp only;repeat' split
  all_goals first | exact h | exact ln_ld h _ | exact ln_sl h _ | exact ln_load h _ | exact ln_nd h _ | exact ln_bd h _ | exact ln_sp h _
theorem ln_pt {n:Nat} {s:St} (h:Ln n s) (x:Pt):Ln n (x.step s).2:=by
 unfold Pt.step;repeat' split
 all_goals first | exact h | exact ln_md h _ | exact ln_cl h _ | exact ln_wk h _
theorem ln_gt {n:Nat} {s:St} (h:Ln n s) (x:Gt):Ln n (x.step s).2:=by
 unfold Gt.step;repeat' split
 all_goals first | exact h | exact ln_lk h _ | exact ln_wk h _
theorem ln_sn {n:Nat} {s:St} (h:Ln n s) (x:Sn):Ln n (x.step s).2:=by
 unfold Sn.step;repeat' split
 all_goals first | exact h | exact ln_km h _ | exact ln_wk h _ | exact ln_lk h _ | exact ln_load h _ | exact ln_store h _ _
theorem ln_steps {n:Nat} {m:Mc} (h:Ln n m.a) (t:Int) (k:Nat):Ln n (m.steps t k).a:=by
 unfold Mc.steps;simp only;split
 ·exact ln_pt h _
 ·split
  ·exact ln_gt h _
  ·split
   ·exact ln_sn h _
   ·exact h
theorem ln_notes {n:Nat} {m:Mc} (h:Ln n m.a):Ln n m.notes.a:=by
 have e:m.notes.a=m.a:=A01
 rw [e];exact h
theorem ln_pick {n:Nat} {m:Mc} (h:Ln n m.a) (t:Int):Ln n (m.pick t).a:=by
 unfold Mc.pick;split
 ·exact h
 ·simp only;have h1:Ln n (if (m.th t).busy=true then m else m.begins t).a:=by split <;> exact h
  generalize (if (m.th t).busy=true then m else m.begins t)=m1 at *;split
  ·have h2:=ln_steps h1 t (by assumption);split
   ·exact ln_notes h2
   ·exact h2
  ·exact h1
theorem ln_run {n:Nat}:∀ (ps:List Int) (m:Mc),Ln n m.a→Ln n (ps.foldl Mc.pick m).a
 | [],_,h=>h
 | p :: ps,m,h=>ln_run ps _ (ln_pick h p)
theorem runP_len {c:Cf} (hc:c.Ok) (rs:List (List O)) (ds ps:List Int):((q7w c rs ds ps).a.l.length:Int)=c.wd:=by have h:=ln_run ps (Mc.new c rs ds) (n:=c.wd.toNat) (Pl.Vx (wd:=c.wd) hc.t1 hc.t8 (by have:=hc.c2;have:=hc.t1;omega) hc.top).1;have e:(q7w c rs ds ps).a.l.length=c.wd.toNat:=h;have:=hc.w1;omega
end Go.Proofs.YtaccfepnhmgagaaGreatDoor.Mx
namespace Go.Proofs.YtaccfepnhmgagaaGreatDoor.Mx
open Go.RowKit Go.Proofs.YtaccfepnhmgagaaGreatDoor.Ar Go.Proofs.YtaccfepnhmgagaaGreatDoor.Ref Go.Proofs.YtaccfepnhmgagaaGreatDoor.Og Go.Proofs.YtaccfepnhmgagaaGreatDoor.Mp
set_option linter.unusedVariables false
set_option linter.unusedSimpArgs false
def SP (c:Cf) (p:Int):Prop:=∃ a i,Al c a∧0≤i∧i<c.c∧p=a+(7+3 * i)
theorem sp_field {c:Cf} (hc:c.Ok) {a f:Int} (ha:Al c a) (h0:0≤f) (h1:f<z6 c) (h:SP c (a+f)):∃ i,0≤i∧i<c.c∧f=7+3 * i:=by obtain ⟨b,i,hb,i0,i1,e⟩:=h;obtain ⟨-,e2⟩:=qdk hc ha hb ⟨h0,h1⟩ ⟨by omega,by unfold z6;omega⟩ e;exact ⟨i,i0,i1,e2⟩
theorem sp_back {c:Cf} (hc:c.Ok) {a f:Int} (ha:Al c a) (h0:0≤f) (h1:f<z6 c) (h:SP c (a+f - 2)):∃ i,0≤i∧i<c.c∧f=9+3 * i:=by
 obtain ⟨b,i,hb,i0,i1,e⟩:=h;by_cases k:a=b
 ·subst k;exact ⟨i,i0,i1,by omega⟩
 ·unfold z6 at *;have:=q9v hc ha hb k;unfold z6 at this;omega
theorem sp_low {c:Cf} (hc:c.Ok) {p:Int} (h:SP c p):14+c.t≤p:=by obtain ⟨b,i,hb,i0,i1,e⟩:=h;have:=(Z7 hc hb).1;unfold jv at this;omega
structure VrW (c:Cf) (M N:Int) (l:List Int):Prop where
 c0:0≤qw l 1
 c1:qw l 1≤N
 st:∀ p,SP c p→qw l p≤qw l 1+3
 dt:∀ p,SP c p→0≤qw l (p+2)
 ps:∀ t,0≤t→t<c.t→0≤q54 (qw l (3+t))∧q54 (qw l (3+t))≤M
theorem VrW.le {c:Cf} {M N N':Int} {l:List Int} (h:VrW c M N l) (k:N≤N'):VrW c M N' l:=⟨h.c0,by have:=h.c1;omega,h.st,h.dt,h.ps⟩
structure Vst (c:Cf) (M N:Int) (l l':List Int):Prop where
 w:VrW c M N l'
 up:qw l 1≤qw l' 1
section
variable {c:Cf} {M N:Int} {l:List Int}
theorem vst_same (h:VrW c M N l):Vst c M (N+1) l l:=⟨h.le A0f,Int.le_refl _⟩
theorem vst_poke (h:VrW c M N l) {p v:Int} (h1:p≠1) (hs:SP c p→v≤qw l 1+3) (hd:SP c (p - 2)→0≤v) (hp:3≤p→p<3+c.t→0≤q54 v∧q54 v≤M):Vst c M (N+1) l (yl l p v):=by
 have e1:qw (yl l p v) 1=qw l 1:=by rw [vz,qd (fun k=>h1 k.1.symm)]
 refine ⟨⟨by rw [e1];exact h.c0,by rw [e1];have:=h.c1;omega,fun q hq=>?_,fun q hq=>?_,fun t t0 t1=>?_⟩,by rw [e1];exact Int.le_refl _⟩
 ·rw [e1,vz];split
  ·rename_i k;rw [k.1] at hq;exact hs hq
  ·exact h.st q hq
 ·rw [vz];split
  ·rename_i k;have e:q=p - 2:=by omega
   rw [e] at hq;exact hd hq
  ·exact h.dt q hq
 ·rw [vz];split
  ·rename_i k;exact hp A0f A0f
  ·exact h.ps t t0 t1
theorem vst_fld (hc:c.Ok) {g:Gst} (hO:OkG c g l) (h:VrW c M N l) {a f v:Int} (ha:g.K a) (h0:0≤f) (h1:f<z6 c) (hv:∀ j,0≤j→f=7+3 * j→v≤qw l 1+3) (hd:∀ j,0≤j→f=9+3 * j→0≤v:=by intro j _ _;omega):Vst c M (N+1) l (yl l (wrap64 (a+f)) v):=by
 have hb:=Wt hc hO ha;have hl:=(Rel.low hc hO ha).1;have:=hc.t1;rw [Zu A0f A0f];refine vst_poke h A0f (fun k=>?_) (fun k=>?_) (fun _ _=>by omega)
 ·obtain ⟨i,i0,i1,e⟩:=sp_field hc (hO.ki.al a ha).1 h0 h1 k;exact hv i i0 e
 ·obtain ⟨i,i0,i1,e⟩:=sp_back hc (hO.ki.al a ha).1 h0 h1 k;exact hd i i0 e
theorem vst_low (hc:c.Ok) (h:VrW c M N l) {p v:Int} (h0:p=2∨3+c.t≤p) (h1:p<14+c.t):Vst c M (N+1) l (yl l p v):=by have:=hc.t1;exact vst_poke h A0f (fun k=>by have:=sp_low hc k;omega) (fun k=>by have:=sp_low hc k;omega) (fun _ _=>by omega)
theorem vst_psa (hc:c.Ok) (h:VrW c M N l) {t v:Int} (t0:0≤t) (t1:t<c.t) (hv:0≤q54 v∧q54 v≤M):Vst c M (N+1) l (yl l (3+t) v) :=
 vst_poke h A0f (fun k=>by have:=sp_low hc k;omega) (fun k=>by have:=sp_low hc k;omega) (fun _ _=>hv)
theorem vst_swap {s:St} {p o v:Int} (h:VrW c M N s.l) (H:s.can p o=true→Vst c M (N+1) s.l (yl s.l p v)):Vst c M (N+1) s.l (s.swap p o v).l:=by
 cases k:s.can p o with
 | true=>rw [jo k];exact H k
 | false=>rw [Q7 k];exact vst_same h
theorem vst_tick (hc:c.Ok) (h:VrW c M N l) (hN:N≤1000000000000):Vst c M (N+1) l (yl l 1 (wrap64 (qw l 1+1))):=by
 have h0:=h.c0;have h1:=h.c1;have:=hc.t1;rw [Zu A0f A0f];have e1:qw l 1≤qw (yl l 1 (qw l 1+1)) 1∧qw (yl l 1 (qw l 1+1)) 1≤qw l 1+1:=by rw [vz];split <;> omega
 refine ⟨⟨by omega,by omega,fun q hq=>?_,fun q hq=>?_,fun t t0 t1=>?_⟩,by omega⟩
 ·have:=sp_low hc hq;have e:qw (yl l 1 (qw l 1+1)) q=qw l q:=by rw [vz,qd A0f]
  rw [e];have:=h.st q hq;omega
 ·have:=sp_low hc hq;rw [vz,qd A0f];exact h.dt q hq
 ·rw [vz,qd A0f];exact h.ps t t0 t1
theorem seq_claim {q p:Int} (h0:0≤q) (h1:q≤M):0≤q54 (wm q p)∧q54 (wm q p)≤M:=by unfold q54 wm hd;omega
theorem state_le {v k:Int} (h0:0≤v) (h1:v≤k):yc v≤k+3:=by unfold yc hd;omega
def LokV (k:Int) (x:Lok):Prop:=x.line=5→0≤x.g∧x.g≤k
theorem LokV.up {k k':Int} {x:Lok} (h:LokV k x) (e:k≤k'):LokV k' x:=fun q=>by have:=h q;omega
theorem LokV.new (k:Int) (c:Cf) (a lo hi most:Int):LokV k (Lok.new c a lo hi most):=fun e=>by simp [Lok.new] at e
theorem lok_on5 (x:Lok):x.on.line≠5:=by unfold Lok.on;split <;> simp
theorem lok_seven5 (x:Lok):x.seven.line≠5:=by
 unfold Lok.seven;split
 ·exact lok_on5 _
 ·simp
theorem lok_five (x:Lok) (v:Int) (h:(x.next v).line=5):x.line=4∧(x.next v).g=v:=by
 unfold Lok.next at h ⊢;by_cases l1:x.line=1
 ·rw [qf l1] at h;exact absurd h (lok_on5 _)
 rw [qd l1] at h ⊢;by_cases l2:x.line=2
 ·rw [qf l2] at h;split at h
  ·exact absurd h (lok_on5 _)
  ·simp at h
 rw [qd l2] at h ⊢;by_cases l3:x.line=3
 ·rw [qf l3] at h;split at h
  ·exact absurd h (lok_on5 _)
  ·split at h
   ·simp at h
   ·exact absurd h (lok_seven5 _)
 rw [qd l3] at h ⊢;by_cases l4:x.line=4
 ·rw [qf l4];exact ⟨l4,rfl⟩
 rw [qd l4] at h;by_cases l5:x.line=5
 ·rw [qf l5] at h;simp at h
 rw [qd l5] at h;by_cases l6:x.line=6
 ·rw [qf l6] at h;split at h
  ·exact absurd h (lok_on5 _)
  ·exact absurd h (lok_seven5 _)
 rw [qd l6] at h;exact absurd h (lok_on5 _)
theorem lok_V (hc:c.Ok) {g:Gst} {s:St} (hO:OkG c g s.l) (h:VrW c M N s.l) {x:Lok} (hx:LkI c g x) (hv:LokV (qw s.l 1) x):Vst c M (N+1) s.l (x.step s).2.l∧LokV (qw (x.step s).2.l 1) (x.step s).1:=by
 by_cases hl:x.live=true
 ·have e:x.step s=(x.next (x.told s),x.act s):=by unfold Lok.step;rw [qf hl]
  rw [e];unfold Lok.live at hl;simp only [Bool.and_eq_true,decide_eq_true_eq] at hl
  have A:Vst c M (N+1) s.l (x.act s).l:=by
   by_cases l5:x.line=5
   ·have hi:=hx.ok.two A0f;have hi2:=hx.ok.cnt;rw [hx.cc] at hi2;have h3:0≤x.i∧x.i<c.c:=⟨hx.ok.i0,by omega⟩;obtain ⟨sa,sz7,sz9⟩:=q8j hc hO hx.K h3;have hsa:x.sa=x.chunk+(7+3 * x.i):=sa;have ea:x.act s=s.swap x.sa 1 (yc x.g):=by unfold Lok.act;rw [qd A0f,qd A0f,qd A0f,qd A0f,qf l5]
    have hw:x.sa=wrap64 (x.chunk+(7+3 * x.i)):=by have:=Wt hc hO hx.K;rw [Zu A0f A0f];exact hsa
    rw [ea];obtain ⟨g0,g1⟩:=hv l5;exact Pz
   ·have ea:(x.act s).l=s.l:=by unfold Lok.act;(repeat' split);all_goals first | rfl | exact absurd ‹_› l5
    rw [ea];exact vst_same h
  refine ⟨A,fun q=>?_⟩;obtain ⟨l4,e5⟩:=lok_five x _ q;simp only;rw [e5];have e1:x.told s=qw s.l 1:=by unfold Lok.told;rw [qd A0f,qd A0f,qd A0f,qf l4]
  rw [e1];exact ⟨h.c0,A.up⟩
 ·have e:x.step s=(x,s):=by unfold Lok.step;rw [qd hl]
  exact A0b
def KmV (M:Int) (x:Km):Prop:=0≤x.seq∧x.seq≤M
theorem km_V (hc:c.Ok) {s:St} (h:VrW c M N s.l) (hN:N≤1000000000000) {x:Km} (hx:KmI c x) (hv:KmV M x):Vst c M (N+1) s.l (x.step s).2.l∧KmV M (x.step s).1:=by
 have ht:=hx.t;unfold Km.step;split
 ·refine ⟨?_,?_⟩
  ·simp only;unfold Km.act Km.pa qa8;repeat' split
   ·exact vst_same h
   ·exact vst_psa hc h ht.1 ht.2 (seq_claim hv.1 hv.2)
   ·exact vst_tick hc h hN
   ·exact vst_swap h (fun _=>vst_psa hc h ht.1 ht.2 (seq_claim hv.1 hv.2))
   ·exact vst_same h
  ·unfold Km.next KmV;(repeat' split) <;> exact hv
 ·exact ⟨vst_same h,hv⟩
theorem nd_V (hc:c.Ok) {s:St} (h:VrW c M N s.l) (hN:N≤1000000000000) {x:Nd} (hx:NdI c x):Vst c M (N+1) s.l (x.step s).2.l:=by
 have h0:=hx.t0;unfold Nd.step;split
 ·rename_i hl;have h1:=hx.t1 hl;simp only;unfold Nd.act Nd.pa qa8;repeat' split
  ·exact vst_same h
  ·exact vst_tick hc h hN
  ·refine vst_swap h (fun k=>vst_psa hc h h0 h1 ?_);have:=h.ps x.t h0 h1;rw [jy k] at this;exact seq_claim this.1 this.2
  ·exact vst_same h
 ·exact vst_same h
theorem wk_V {s:St} (h:VrW c M N s.l) (x:Wk):Vst c M (N+1) s.l (x.step s).2.l:=by rw [Ta];exact vst_same h
def ClV (k:Int) (x:Cl):Prop:=(x.line=7→0≤x.g∧x.g≤k)∧0≤x.data
theorem ClV.up {k k':Int} {x:Cl} (h:ClV k x) (e:k≤k'):ClV k' x:=⟨fun q=>by have:=h.1 q;omega,h.2⟩
theorem cl_V (hc:c.Ok) {g:Gst} {s:St} (hO:OkG c g s.l) (h:VrW c M N s.l) {x:Cl} (hx:ClI c g x) (hv:ClV (qw s.l 1) x):Vst c M (N+1) s.l (x.step s).2.l∧ClV (qw (x.step s).2.l 1) (x.step s).1:=by
 by_cases hl:x.live=true
 ·have e:x.step s=(x.next (x.told s),x.act s):=by unfold Cl.step;rw [qf hl]
  rw [e];unfold Cl.live at hl;simp only [Bool.and_eq_true,decide_eq_true_eq] at hl;have hsz:=xh hc;have hkb:=Wt hc hO hx.K;have hS:z6 c=7+3 * c.c:=rfl;have hc2:=hc.c2;have hc1:=hc.t1
  have A:Vst c M (N+1) s.l (x.act s).l:=by
   unfold Cl.act;by_cases l1:x.line=1
   ·rw [qf l1];exact vst_same h
   rw [qd l1];by_cases l2:x.line=2
   ·rw [qf l2,qdg];exact A08
   rw [qd l2];have h3:=hx.i3 A0f;obtain ⟨sa,sz7,sz9⟩:=q8j hc hO hx.K h3;have hsa:x.sa=x.chunk+(7+3 * x.i):=sa;have hw:x.sa=wrap64 (x.chunk+(7+3 * x.i)):=by rw [Zu A0f A0f];exact hsa
   by_cases l3:x.line=3
   ·rw [qf l3,Xd,hsa,show x.chunk+(7+3 * x.i)+1=x.chunk+(8+3 * x.i) by omega];exact A08
   rw [qd l3];by_cases l4:x.line=4
   ·rw [qf l4,Xd,hsa,show x.chunk+(7+3 * x.i)+2=x.chunk+(9+3 * x.i) by omega];exact vst_fld hc hO h hx.K A0f A0f (fun _ _ _=>by omega) (fun _ _ _=>hv.2)
   rw [qd l4];by_cases l5:x.line=5
   ·rw [qf l5];refine vst_swap h (fun _=>?_);rw [hw];exact vst_fld hc hO h hx.K A0f sz7 (fun _ _ _=>by have:=h.c0;omega)
   rw [qd l5];by_cases l6:x.line=6
   ·rw [qf l6];exact vst_same h
   rw [qd l6];by_cases l7:x.line=7
   ·rw [qf l7];obtain ⟨g0,g1⟩:=hv.1 l7;exact Pz
   rw [qd l7];exact vst_same h
  refine ⟨A,fun q=>?_,?_⟩;rotate_left
  ·show 0≤(x.next (x.told s)).data;have:(x.next (x.told s)).data=x.data:=by unfold Cl.next;(repeat' split) <;> rfl
   rw [this];exact hv.2
  have e5:x.line=6∧(x.next (x.told s)).g=x.told s:=by
   simp only at q;generalize x.told s=v at *;unfold Cl.next at q ⊢;by_cases l6:x.line=6
   ·rw [qd A0f,qd A0f,qd A0f,qd A0f,qd A0f,qf l6];exact ⟨l6,rfl⟩
   ·exfalso;rw [qd l6] at q;(repeat' split at q) <;> simp at q
  obtain ⟨l6,e5⟩:=e5;simp only;rw [e5];have e1:x.told s=qw s.l 1:=by unfold Cl.told;rw [qd A0f,qd A0f,qd A0f,qf l6]
  rw [e1];exact ⟨h.c0,A.up⟩
 ·have e:x.step s=(x,s):=by unfold Cl.step;rw [qd hl]
  exact A0b
def SlV (k:Int) (x:Sl):Prop:=x.line=6→0≤x.g∧x.g≤k
theorem SlV.up {k k':Int} {x:Sl} (h:SlV k x) (e:k≤k'):SlV k' x:=fun q=>by have:=h q;omega
theorem sl_V (hc:c.Ok) {g:Gst} {s:St} (hO:OkG c g s.l) (h:VrW c M N s.l) {x:Sl} (hx:SlI c g x) (hv:SlV (qw s.l 1) x):Vst c M (N+1) s.l (x.step s).2.l∧SlV (qw (x.step s).2.l 1) (x.step s).1:=by
 by_cases hl:x.live=true
 ·have e:x.step s=(x.next (x.told s),x.act s):=by unfold Sl.step;rw [qf hl]
  rw [e];unfold Sl.live at hl;simp only [Bool.and_eq_true,decide_eq_true_eq] at hl;have hsz:=xh hc;have hkb:=Wt hc hO hx.K;have hS:z6 c=7+3 * c.c:=rfl;have hc2:=hc.c2;have hc1:=hc.t1;obtain ⟨b,j,hb,hj,-,ej,e9⟩:=q6p hc hO hx.K hx.m (hx.i hl.1);have hbb:=Wt hc hO hb;have hsa:x.sa=wrap64 (b+(7+3 * j)):=by unfold Sl.sa;rw [hx.cc,Zu A0f A0f];exact ej
  have A:Vst c M (N+1) s.l (x.act s).l:=by
   unfold Sl.act;by_cases l1:x.line=1
   ·rw [qf l1,Xd];exact vst_fld hc hO h hx.K A0f A0f (fun _ _ _=>by omega)
   rw [qd l1];by_cases l2:x.line=2
   ·have hm:=hx.m.resolve_left (hx.m2 l2);rw [qf l2,Xd];exact vst_fld hc hO h hm A0f A0f (fun _ _ _=>by omega)
   rw [qd l2];by_cases l3:x.line=3
   ·rw [qf l3];exact vst_same h
   rw [qd l3];by_cases l4:x.line=4
   ·rw [qf l4];refine vst_swap h (fun _=>?_);rw [hsa];exact vst_fld hc hO h hb A0f A0f (fun _ _ _=>by have:=h.c0;omega)
   rw [qd l4];by_cases l5:x.line=5
   ·rw [qf l5];exact vst_same h
   rw [qd l5];obtain ⟨g0,g1⟩:=hv A0f;refine vst_swap h (fun _=>?_);rw [hsa];exact vst_fld hc hO h hb A0f A0f (fun _ _ _=>state_le g0 g1)
  refine ⟨A,fun q=>?_⟩
  have e5:x.line=5∧(x.next (x.told s)).g=x.told s:=by
   simp only at q;generalize x.told s=v at *;unfold Sl.next at q ⊢;by_cases l5:x.line=5
   ·rw [qd A0f,qd A0f,qd A0f,qd A0f,qf l5];exact ⟨l5,rfl⟩
   ·exfalso;rw [qd l5] at q;(repeat' split at q) <;> (simp at q) <;> omega
  obtain ⟨l5,e5⟩:=e5;simp only;rw [e5];have e1:x.told s=qw s.l 1:=by unfold Sl.told;rw [qd A0f]
  rw [e1];exact ⟨h.c0,A.up⟩
 ·have e:x.step s=(x,s):=by unfold Sl.step;rw [qd hl]
  exact A0b
theorem ld_V (hc:c.Ok) {g:Gst} {s:St} (hO:OkG c g s.l) (h:VrW c M N s.l) {x:Ld} (hx:LdI c g x):Vst c M (N+1) s.l (x.step s).2.l:=by
 have hS:z6 c=7+3 * c.c:=rfl;have hc2:=hc.c2;have hc1:=hc.t1;unfold Ld.step;split
 ·rename_i hl;unfold Ld.live at hl;simp only [Bool.and_eq_true,decide_eq_true_eq] at hl;simp only;unfold Ld.act;by_cases l1:x.line=1
  ·rw [qf l1];exact vst_swap h (fun _=>vst_fld hc hO h hx.K A0f A0f (fun _ _ _=>by omega))
  rw [qd l1];by_cases l2:x.line=2
  ·rw [qf l2];exact vst_same h
  rw [qd l2];have hL:=hx.l (.inl A0f);by_cases l3:x.line=3
  ·rw [qf l3];exact vst_same h
  rw [qd l3];by_cases l4:x.line=4
  ·rw [qf l4];exact vst_swap h (fun _=>vst_fld hc hO h hL A0f A0f (fun _ _ _=>by omega))
  rw [qd l4];by_cases l5:x.line=5
  ·rw [qf l5];exact vst_same h
  rw [qd l5];by_cases l6:x.line=6
  ·rw [qf l6];exact vst_swap h (fun _=>vst_fld hc hO h hL A0f A0f (fun _ _ _=>by omega))
  rw [qd l6];by_cases l7:x.line=7
  ·rw [qf l7];exact vst_same h
  rw [qd l7];have hn:=(hx.m8 A0f).1;by_cases l8:x.line=8
  ·rw [qf l8];exact vst_swap h (fun _=>vst_fld hc hO h hn A0f A0f (fun _ _ _=>by omega))
  rw [qd l8];by_cases l9:x.line=9
  ·rw [qf l9];exact vst_same h
  rw [qd l9];by_cases l10:x.line=10
  ·rw [qf l10];exact vst_same h
  rw [qd l10];exact vst_swap h (fun _=>vst_fld hc hO h hn A0f A0f (fun _ _ _=>by omega))
 ·exact vst_same h
theorem sp_V (hc:c.Ok) {g:Gst} {s:St} (hO:OkG c g s.l) (h:VrW c M N s.l) {x:Sp} (hx:SpI c g x):Vst c M (N+1) s.l (x.step s).2.l:=by
 have hS:z6 c=7+3 * c.c:=rfl;have hc2:=hc.c2;have hc1:=hc.t1;have hc8:=hc.t8;unfold Sp.step;split
 ·rename_i hl;unfold Sp.live at hl;simp only [Bool.and_eq_true,Bool.or_eq_true,decide_eq_true_eq] at hl;simp only;unfold Sp.act;by_cases l1:x.line=1
  ·rw [qf l1];exact vst_same h
  rw [qd l1];by_cases l3:x.line=3
  ·rw [qf l3];exact vst_same h
  rw [qd l3];by_cases l4:x.line=4
  ·rw [qf l4];refine vst_swap h (fun _=>?_);rcases hx.cu A0f with k | k
   ·exact vst_fld hc hO h k A0f A0f (fun _ _ _=>by omega)
   ·rw [k,Zu A0s A0s];exact vst_low hc h (.inr A0s) A0s
  rw [qd l4];by_cases l5:x.line=5
  ·rw [qf l5];exact vst_same h
  rw [qd l5];by_cases l6:x.line=6
  ·rw [qf l6,Xd];exact vst_fld hc hO h hx.K A0f A0f (fun _ _ _=>by omega)
  rw [qd l6];by_cases l7:x.line=7
  ·have hm:=hx.m.resolve_left (hx.m7 l7);rw [qf l7,Xd];exact vst_fld hc hO h hm A0f A0f (fun _ _ _=>by omega)
  rw [qd l7,Xd];have hh:0≤hd x.m 0 63∧hd x.m 0 63≤63:=by unfold hd;omega
  unfold Sp.hint Y0;rw [hx.cc];exact vst_low hc h (.inr A0f) A0f
 ·exact vst_same h
end
end Go.Proofs.YtaccfepnhmgagaaGreatDoor.Mx
namespace Go.Proofs.YtaccfepnhmgagaaGreatDoor.Mx
open Go.RowKit Go.Proofs.YtaccfepnhmgagaaGreatDoor.Ar Go.Proofs.YtaccfepnhmgagaaGreatDoor.Ref Go.Proofs.YtaccfepnhmgagaaGreatDoor.Og Go.Proofs.YtaccfepnhmgagaaGreatDoor.Mp
set_option linter.unusedVariables false
set_option linter.unusedSimpArgs false
def WdV (c:Cf) (k:Int) (q:Int×Int):Prop:=14+c.t≤q.1∧(SP c q.1→q.2≤k+3)∧(SP c (q.1 - 2)→0≤q.2)
def ItV (k:Int) (y:It):Prop:=y.v≤k∧0≤y.d
section
variable {c:Cf} {M N:Int} {l:List Int}
theorem stateW_le {v k:Int} (hk:0≤k) (h:v≤k):yc v≤k+3:=by unfold yc hd;omega
theorem wd_fld (hc:c.Ok) {k a f v:Int} (ha:Al c a) (hb:a+z6 c≤100000) (h0:0≤f) (h1:f<z6 c) (hv:∀ j,0≤j→f=7+3 * j→v≤k+3) (hd:∀ j,0≤j→f=9+3 * j→0≤v:=by intro j _ _;omega):WdV c k (wrap64 (a+f),v):=by
 have h1':=(Z7 hc ha).1;have:=hc.t1;unfold jv at h1';refine ⟨?_,fun q=>?_,fun q=>?_⟩
 ·simp only;rw [Zu A0f A0f];omega
 ·simp only at q ⊢;rw [Zu A0f A0f] at q;obtain ⟨i,i0,i1,e⟩:=sp_field hc ha h0 h1 q;exact hv i i0 e
 ·simp only at q ⊢;rw [Zu A0f A0f] at q;obtain ⟨i,i0,i1,e⟩:=sp_back hc ha h0 h1 q;exact hd i i0 e
theorem itWords_V (hc:c.Ok) {k a:Int} (hk:0≤k) (ha:Al c a) (hb:a+z6 c≤100000):∀ {l:List It} {j:Nat},((j+l.length:Nat):Int)≤c.c→(∀ y∈l,ItV k y)→∀ q∈yd a j l,WdV c k q
 | [],j,_,_,q,hq=>by simp [yd] at hq
 | y :: r,j,hj,h,q,hq=>by
  have h15:=(Z7 hc ha).2;have hS:z6 c=7+3 * c.c:=rfl;rw [List.length_cons] at hj;have es:Qp a j=a+(7+3 * (j:Int)):=by unfold Qp;rw [Zu A0f A0f];omega
  unfold yd at hq;simp only [List.mem_cons] at hq;rcases hq with rfl | rfl | rfl | hq
  ·have:WdV c k (wrap64 (a+(7+3 * (j:Int))),yc y.v):=wd_fld hc ha hb A0f A0f (fun _ _ _=>stateW_le hk (h y A0h).1);rw [Zu A0f A0f,← es] at this;exact this
  ·rw [es,show a+(7+3 * (j:Int))+1=a+(8+3 * (j:Int)) by omega];exact wd_fld hc ha hb A0f A0f (fun _ _ _=>by omega)
  ·rw [es,show a+(7+3 * (j:Int))+2=a+(9+3 * (j:Int)) by omega];exact wd_fld hc ha hb A0f A0f (fun _ _ _=>by omega) (fun _ _ _=>(h y A0h).2)
  ·exact itWords_V hc hk ha hb A0f (fun z hz=>h z (by simp [hz])) q hq
theorem al_next {a:Int} (h:Al c a):Al c (a+z6 c):=by obtain ⟨i,rfl⟩:=h;exact ⟨i+1,by push_cast;rw [Int.add_mul,Int.one_mul];omega⟩
theorem chunksF_V (hc:c.Ok) {k:Int} (hk:0≤k) (after:Int):∀ {gs:List (List It)} {at_:Int} {ms:List Int},Al c at_→at_+z6 c * (gs.length:Int)≤20000→(∀ a∈gs,(a.length:Int)≤c.c∧∀ y∈a,ItV k y)→∀ q∈yh (je c at_ after gs ms),WdV c k q
 | [],at_,ms,_,_,_,q,hq=>by simp [je,yh] at hq
 | a :: r,at_,ms,ha,hb,h,q,hq=>by
  have hS:z6 c=7+3 * c.c:=rfl;have hc2:=hc.c2;have hc1:=hc.t1;have hc16:=hc.c16;have h15:=(Z7 hc ha).2;rw [List.length_cons] at hb;push_cast at hb;rw [Int.mul_add,Int.mul_one] at hb;have hm:0≤z6 c * (r.length:Int):=Int.mul_nonneg A0f A0f;have ew:wrap64 (at_+z6 c)=at_+z6 c:=Zu A0f A0f;unfold je yh at hq;rw [List.flatMap_cons] at hq;rcases List.mem_append.1 hq with hq | hq
  ·have hh:=h a A0h;unfold Qu at hq;simp only [List.mem_cons] at hq;rcases hq with rfl | rfl | rfl | hq
   ·have:=wd_fld (k:=k) (v:=ms.headD 0) hc ha A0f (f:=0) A0f A0f (fun _ _ _=>by omega);rwa [Int.add_zero] at this
   ·exact A07
   ·exact A07
   ·exact itWords_V hc hk ha A0f A0f hh.2 q hq
  ·rw [ew] at hq;exact chunksF_V hc hk after (al_next ha) A0f (fun b hb=>h b (by simp [hb])) q hq
theorem chunksT_V (hc:c.Ok) {k:Int} (hk:0≤k) (after mn:Int) {at_:Int} {gs:List (List It)} (ha:Al c at_) (hb:at_+z6 c * (gs.length:Int)≤20000) (h:∀ a∈gs,∀ y∈a,ItV k y):∀ q∈yh (yj c at_ after mn gs),WdV c k q:=by
 unfold yj;split
 ·rename_i e;rw [List.all_eq_true] at e;exact chunksF_V hc hk after ha hb (fun a ha=>⟨by have:=e a ha;simpa using this,h a ha⟩)
 ·simp [yh]
theorem vkeep_mem (vs:List Int):∀ {l:List It} {y:It},y∈Zh vs l→y∈l
 | [],y,h=>by simp [Zh] at h
 | x :: r,y,h=>by
  unfold Zh at h;split at h
  ·rcases List.mem_cons.1 h with rfl | h
   ·simp
   ·exact List.mem_cons_of_mem _ (vkeep_mem vs h)
  ·exact List.mem_cons_of_mem _ (vkeep_mem vs h)
theorem vsplit_mem (half:Int):∀ {n:Nat} {l:List It} {o:List (List It)} {cur a:List It} {y:It},a∈ko half n l o cur→y∈a→y∈l∨y∈cur∨∃ b∈o,y∈b
 | 0,l,o,cur,a,y,h,hy=>by
  unfold ko at h;rcases List.mem_append.1 h with h | h
  ·exact .inr (.inr ⟨a,h,hy⟩)
  ·rw [List.mem_singleton.1 h] at hy;exact .inr (.inl hy)
 | n+1,[],o,cur,a,y,h,hy=>by
  unfold ko at h
  rcases List.mem_append.1 h with h | h
  ·exact .inr (.inr ⟨a,h,hy⟩)
  ·rw [List.mem_singleton.1 h] at hy;exact .inr (.inl hy)
 | n+1,x :: r,o,cur,a,y,h,hy=>by
  unfold ko at h
  simp only at h
  have d1:∀ {y:It},y∈r.dropWhile (fun z=>z.k == x.k)→y∈x :: r:=fun hy=>List.mem_cons_of_mem _ ((List.dropWhile_sublist _).subset hy)
  have d2:∀ {y:It},y∈x :: r.takeWhile (fun z=>z.k == x.k)→y∈x :: r:=fun hy=>by
   rcases List.mem_cons.1 hy with rfl | hy
   ·simp
   ·exact List.mem_cons_of_mem _ ((List.takeWhile_sublist _).subset hy)
  split at h
  ·rcases vsplit_mem half h hy with k | k | ⟨b,hb,k⟩
   ·exact .inl (d1 k)
   ·exact .inl (d2 k)
   ·rcases List.mem_append.1 hb with hb | hb
    ·exact .inr (.inr ⟨b,hb,k⟩)
    ·rw [List.mem_singleton.1 hb] at k;exact .inr (.inl k)
  ·rcases vsplit_mem half h hy with k | k | k
   ·exact .inl (d1 k)
   ·rcases List.mem_append.1 k with k | k
    ·exact .inr (.inl k)
    ·exact .inl (d2 k)
   ·exact .inr (.inr k)
theorem split_mem {l:List It} {vs:List Int} {n:Int} {a:List It} {y:It} (ha:a∈xw (Yt l vs) n) (hy:y∈a):y∈l:=by
 rcases vsplit_mem _ ha hy with k | k | ⟨b,hb,k⟩
 ·exact q04.1 (vkeep_mem vs k)
 ·simp at k
 ·simp at hb
structure BdV (c:Cf) (k:Int) (x:Bd):Prop where
 xv:x.line=3∨x.line=4→x.x.v≤k
 l:∀ y∈x.l,ItV k y
 g:∀ a∈x.groups,∀ y∈a,ItV k y
 w:∀ q∈x.w,WdV c k q
theorem BdV.up {k k':Int} {x:Bd} (h:BdV c k x) (e:k≤k'):BdV c k' x :=
 ⟨fun q=>by have:=h.xv q;omega,fun y hy=>⟨by have:=(h.l y hy).1;omega,(h.l y hy).2⟩,fun a ha y hy=>⟨by have:=(h.g a ha y hy).1;omega,(h.g a ha y hy).2⟩,fun q hq=>⟨(h.w q hq).1,fun s=>by have:=(h.w q hq).2.1 s;omega,(h.w q hq).2.2⟩⟩
theorem BdV.new (c':Cf) (k:Int) (a m r:Int) (vs:List Int):BdV c k (Bd.new c' a m r vs) :=
 ⟨fun q=>by simp [Bd.new] at q,fun y hy=>by simp [Bd.new] at hy,fun y hy=>by simp [Bd.new] at hy,fun y hy=>by simp [Bd.new] at hy⟩
theorem bd_on_V {k:Int} {x:Bd} (hl:∀ y∈x.l,ItV k y) (hg:∀ a∈x.groups,∀ y∈a,ItV k y) (hw:∀ q∈x.w,WdV c k q):BdV c k x.on:=by
 unfold Bd.on;split
 ·exact ⟨fun q=>by simp at q,hl,fun a ha y hy=>hl y (split_mem ha hy),hw⟩
 ·exact ⟨fun q=>by simp at q,hl,hg,hw⟩
theorem bd_V (hc:c.Ok) {g:Gst} {s:St} (hO:OkG c g s.l) (h:VrW c M N s.l) (hN:N≤1000000000000) {x:Bd} (hx:BdI c g s.l x) (hv:BdV c (qw s.l 1) x):Vst c M (N+1) s.l (x.step s).2.l∧BdV c (qw (x.step s).2.l 1) (x.step s).1:=by
 have h0:=h.c0;have h1:=h.c1;rcases hx.inv with l0 | inv
 ·have e:x.step s=(x,s):=by unfold Bd.step;rw [qd A0f,qd A0f,qd A0f,qd A0f,qd A0f,qd A0f,qd A0f,qd A0f]
  exact A0b
 have hS:z6 c=7+3 * c.c:=rfl;have hc2:=hc.c2;have hc1:=hc.t1;rcases (by have:=inv.ln;omega:x.line=1∨x.line=2∨x.line=3∨x.line=4∨x.line=5∨x.line=6∨x.line=7∨x.line=8) with e | e | e | e | e | e | e | e
 ·have ex:x.step s=(({ x with mn:=qw s.l (wrap64 x.chunk),i:=-1 }:Bd).on,s.load (wrap64 x.chunk)):=by unfold Bd.step;rw [qf e]
  exact A0c
 ·obtain ⟨i1,i2,-⟩:=inv.i4 A0f;rw [hx.cc] at i2;obtain ⟨b,j,hb,hj,-,ej,e9⟩:=q6p hc hO hx.led.K (hx.led.m0 hc hO) ⟨i1,i2⟩;have hsa:x.sa=b+(7+3 * j):=by unfold Bd.sa;rw [hx.cc];exact ej
  have hst:=h.st x.sa ⟨b,j,(hO.ki.al b hb).1,hj.1,hj.2,hsa⟩;by_cases hv3:qw s.l x.sa<3
  ·have ex:x.step s=(({ x with x:=⟨0,Vf (qw s.l x.sa),0⟩,line:=3 }:Bd).on,s.load x.sa):=by unfold Bd.step;rw [qd A0f,qf e];simp only;rw [qf hv3]
   exact A0c
  ·have ex:x.step s=({ x with x:=⟨0,Vf (qw s.l x.sa),0⟩,line:=3 },s.load x.sa):=by unfold Bd.step;rw [qd A0f,qf e];simp only;rw [qd hv3]
   rw [ex];refine ⟨vst_same h,fun _=>?_,hv.l,hv.g,hv.w⟩;show Vf (qw s.l x.sa)≤qw s.l 1;unfold Vf;rw [qd hv3,Zu A0f A0f];omega
 ·have ex:x.step s=({ x with x:=⟨qw s.l (wrap64 (x.sa+1)),x.x.v,x.x.d⟩,line:=4 },s.load (wrap64 (x.sa+1))):=by unfold Bd.step;rw [qd A0f,qd A0f,qf e]
  rw [ex];exact ⟨vst_same h,fun _=>hv.xv (.inl e),hv.l,hv.g,hv.w⟩
 ·have ex:x.step s=(({ x with x:=⟨x.x.k,x.x.v,qw s.l (wrap64 (x.sa+2))⟩,l:=x.l++[⟨x.x.k,x.x.v,qw s.l (wrap64 (x.sa+2))⟩] }:Bd).on,s.load (wrap64 (x.sa+2))):=by unfold Bd.step;rw [qd A0f,qd A0f,qd A0f,qf e]
  rw [ex];refine ⟨vst_same h,bd_on_V (fun y hy=>?_) hv.g hv.w⟩;rcases List.mem_append.1 hy with hy | hy
  ·exact hv.l y hy
  ·rw [List.mem_singleton.1 hy];refine ⟨hv.xv (.inr e),?_⟩;obtain ⟨b,j,hb,hj,-,hsa,-⟩:=hx.c3 (.inr e);have hkb:=Wt hc hO hb;have h16:=hc.c16;have:=h.dt x.sa ⟨b,j,(hO.ki.al b hb).1,hj.1,hj.2,hsa⟩;show 0≤qw s.l (wrap64 (x.sa+2));rw [Zu A0f A0f];exact this
 ·have ex:x.step s=(x.five (qw s.l 2),s.add 2 (x.groups.length * z6 x.c)):=by unfold Bd.step;rw [qd A0f,qd A0f,qd A0f,qd A0f,qf e]
  rw [ex];have A:Vst c M (N+1) s.l (s.add 2 (x.groups.length * z6 x.c)).l:=by rw [qdg];exact vst_low hc h (.inl rfl) A0f
  refine ⟨A,BdV.up (k:=qw s.l 1) ?_ A.up⟩;unfold Bd.five;simp only;split
  ·exact ⟨fun q=>by simp at q,hv.l,hv.g,hv.w⟩
  ·rename_i hn;have ha:Al c (qw s.l 2):=by rw [hO.rel.top];exact hO.ki.top
   have hw2:=hc.w2;have hn2:¬ x.c.wd - (x.groups.length:Int) * z6 x.c<qw s.l 2:=fun q=>hn (.inr (.inl q))
   rw [hx.cc] at hn2;have hm:0≤(x.groups.length:Int) * z6 c:=Int.mul_nonneg A0f A0f;have h15:=(Z7 hc ha).2;refine ⟨fun q=>by simp at q,hv.l,hv.g,?_⟩;simp only;rw [hx.cc,Zu A0f A0f];exact chunksT_V hc h0 _ _ ha (by rw [Int.mul_comm];omega) hv.g
 ·have ex:x.step s=({ x with i:=x.i+1,line:=if (x.w.length:Int)≤x.i+1 then 7 else 6 },s.store x.nth.1 x.nth.2):=by unfold Bd.step;rw [qd A0f,qd A0f,qd A0f,qd A0f,qd A0f,qf e]
  rw [ex]
  have A:Vst c M (N+1) s.l (s.store x.nth.1 x.nth.2).l:=by
   rw [Xd];unfold Bd.nth;rw [List.getD_eq_getElem?_getD];cases k:x.w[x.i.toNat]? with
   | none=>exact vst_poke h A0h (fun q=>by have:=sp_low hc q;simp at this;omega) (fun q=>by have:=sp_low hc q;simp at this;omega) (fun q _=>by simp at q)
   | some q =>
    obtain ⟨q1,q2,q3⟩:=hv.w q (List.mem_of_getElem? k);exact vst_poke h (by simp only [Option.getD_some];omega) q2 q3 (fun _ q=>by simp only [Option.getD_some] at q;omega)
  refine ⟨A,BdV.up (k:=qw s.l 1) ⟨fun q=>?_,hv.l,hv.g,hv.w⟩ A.up⟩;simp only at q;split at q <;> omega
 ·have ex:x.step s=({ x with line:=8 },s.swap (wrap64 (x.chunk+5)) 0 x.at_):=by unfold Bd.step;rw [qd A0f,qd A0f,qd A0f,qd A0f,qd A0f,qd A0f,qf e]
  rw [ex];have A:Vst c M (N+1) s.l (s.swap (wrap64 (x.chunk+5)) 0 x.at_).l:=vst_swap h (fun _=>vst_fld hc hO h hx.led.K A0f A0f (fun _ _ _=>by omega));exact ⟨A,BdV.up (k:=qw s.l 1) ⟨fun q=>by simp at q,hv.l,hv.g,hv.w⟩ A.up⟩
 ·have ex:x.step s=({ x with repl:=qw s.l (wrap64 (x.chunk+5)),line:=0 },s.load (wrap64 (x.chunk+5))):=by unfold Bd.step;rw [qd A0f,qd A0f,qd A0f,qd A0f,qd A0f,qd A0f,qd A0f,qf e]
  rw [ex];exact ⟨vst_same h,fun q=>by simp at q,hv.l,hv.g,hv.w⟩
structure FmV (c:Cf) (k:Int) (x:Fm):Prop where
 s:∀ y,x.s=some y→SlV k y
 b:∀ y,x.b=some y→BdV c k y
theorem FmV.up {k k':Int} {x:Fm} (h:FmV c k x) (e:k≤k'):FmV c k' x:=⟨fun y q=>(h.s y q).up e,fun y q=>(h.b y q).up e⟩
theorem FmV.new (k:Int) (c':Cf) (a:Int) (d:Bool):FmV c k (Fm.new c' a d):=⟨fun y e=>A0l,fun y e=>A0l⟩
theorem FmV.splice {k:Int} {f:Fm} (h:FmV c k f) (c':Cf) (r:Int):FmV c k (f.splice c' r):=⟨h.s,h.b⟩
def MdV (c:Cf) (k:Int) (m:Md):Prop:=∀ y∈m.f,FmV c k y
theorem MdV.up {k k':Int} {x:Md} (h:MdV c k x) (e:k≤k'):MdV c k' x:=fun y hy=>(h y hy).up e
theorem MdV.new (k:Int) (c':Cf) (a:Int) (ds:List Int):MdV c k (Md.new c' a ds):=fun y hy=>by
 unfold Md.new at hy;rw [List.mem_singleton.1 hy];exact FmV.new _ _ _ _
theorem MdV.put {k:Int} {m:Md} (hm:MdV c k m) {g:List Fm} (hg:∀ y∈g,FmV c k y) (c':Cf) (ds:List Int) (e:Int):MdV c k ⟨c',ds,m.f.dropLast++g,e⟩:=fun y hy=>by
 rcases List.mem_append.1 hy with hy | hy
 ·exact hm y (List.dropLast_subset _ hy)
 ·exact hg y hy
theorem md_V (hc:c.Ok) {g:Gst} {s:St} (hO:OkG c g s.l) (h:VrW c M N s.l) (hN:N≤1000000000000) {m:Md} (hx:MdI c g s.l m) (hv:MdV c (qw s.l 1) m):Vst c M (N+1) s.l (m.step s).2.l∧MdV c (qw (m.step s).2.l 1) (m.step s).1:=by
 unfold Md.step;cases e:m.f.getLast? with
 | none=>exact ⟨vst_same h,hv⟩
 | some f =>
  have hfm:f∈m.f:=List.mem_of_getLast? e;have hf:=hx.f f hfm;have hfv:=hv f hfm;have one:∀ {k:Int} {g:Fm},FmV c k g→∀ y∈[g],FmV c k y:=fun k y hy=>by rw [List.mem_singleton.1 hy];exact k
  simp only;by_cases p1:f.part=1
  ·rw [qf p1];have A:=ld_V hc hO h hf.ld;refine ⟨A,?_⟩;have hm:=hv.up A.up;have hf2:=hfv.up A.up;generalize qw (f.l.step s).2.l 1=k' at *
   have k:FmV c k' (if (f.l.step s).1.line=0 then { f with l:=(f.l.step s).1,part:=2,s:=some (Sl.new m.c (f.l.step s).1.three.1 (f.l.step s).1.three.2.1) } else { f with l:=(f.l.step s).1 }):=by
    split
    ·exact ⟨fun y q=>by simp only [Option.some.injEq] at q;rw [← q];exact fun r=>absurd r (by simp [Sl.new]),hf2.b⟩
    ·exact ⟨hf2.s,hf2.b⟩
   generalize (if (f.l.step s).1.line=0 then { f with l:=(f.l.step s).1,part:=2,s:=some (Sl.new m.c (f.l.step s).1.three.1 (f.l.step s).1.three.2.1) } else { f with l:=(f.l.step s).1 }:Fm)=y at *;split
   ·exact hm.put (one k) _ _ _
   ·exact hm.put (one k) _ _ _
  rw [qd p1];by_cases p2:f.part=2
  ·rw [qf p2];cases hs:f.s with
   | none=>exact ⟨vst_same h,hv⟩
   | some x =>
    obtain ⟨A,B⟩:=sl_V hc hO h (hf.s x hs) (hfv.s x hs);refine ⟨A,?_⟩;have kk:FmV c (qw (x.step s).2.l 1) { f with s:=some (x.step s).1,part:=if (x.step s).1.line=0 then 3 else 2 }:=⟨fun y q=>by simp only [Option.some.injEq] at q;rw [← q];exact B,(hfv.up A.up).b⟩;exact (hv.up A.up).put (one kk) _ _ _
  rw [qd p2];by_cases p3:f.part=3
  ·rw [qf p3];refine ⟨vst_same h,?_⟩;refine hv.put (one ?_) _ _ _;split
   ·exact ⟨hfv.s,hfv.b⟩
   ·exact hfv.splice _ _
  rw [qd p3];by_cases p4:f.part=4
  ·rw [qf p4];cases hn:f.n with
   | none=>exact ⟨vst_same h,hv.put (one (g:={ f with n:=some (Nd.new m.c) }) ⟨hfv.s,hfv.b⟩) _ _ _⟩
   | some x =>
    have A:=nd_V hc h hN (hf.n x hn).1;refine ⟨A,(hv.up A.up).put (one ?_) _ _ _⟩;split
    ·exact ⟨(hfv.up A.up).s,fun y q=>by simp only [Option.some.injEq] at q;rw [← q];exact BdV.new _ _ _ _ _ _⟩
    ·exact ⟨(hfv.up A.up).s,(hfv.up A.up).b⟩
  rw [qd p4];by_cases p5:f.part=5
  ·rw [qf p5];cases eb:f.b with
   | none=>exact ⟨vst_same h,hv⟩
   | some x =>
    obtain ⟨A,B⟩:=bd_V hc hO h hN (hf.b p5 x eb).1 (hfv.b x eb);refine ⟨A,?_⟩;have hm:=hv.up A.up;have k:FmV c (qw (x.step s).2.l 1) { f with b:=some (x.step s).1 }:=⟨(hfv.up A.up).s,fun y q=>by simp only [Option.some.injEq] at q;rw [← q];exact B⟩;simp only;split
    ·split
     ·exact hm.put (one (k.splice _ _)) _ _ _
     ·exact fun y hy=>by simp at hy
    ·exact hm.put (one k) _ _ _
  rw [qd p5];by_cases p6:f.part=6
  ·rw [qf p6];cases ep:f.p with
   | none=>exact ⟨vst_same h,hv⟩
   | some x =>
    have A:=sp_V hc hO h (hf.p x ep);refine ⟨A,?_⟩;have hm:=hv.up A.up;have k:FmV c (qw (x.step s).2.l 1) { f with p:=some (x.step s).1 }:=⟨(hfv.up A.up).s,(hfv.up A.up).b⟩;simp only;split
    ·split
     ·exact fun y hy=>hm y (List.dropLast_subset _ hy)
     ·refine hm.put (fun y hy=>?_) _ _ _;simp only [List.mem_cons,List.not_mem_nil,or_false] at hy;rcases hy with rfl | rfl
      ·exact k.splice _ _
      ·exact FmV.new _ _ _ _
    ·exact hm.put (one k) _ _ _
  rw [qd p6];exact ⟨vst_same h,hv⟩
structure PtV (c:Cf) (k:Int) (x:Pt):Prop where
 d:0≤x.data
 xx:∀ y,x.x=some y→ClV k y
 m:∀ y,x.m=some y→MdV c k y
theorem PtV.up {k k':Int} {x:Pt} (h:PtV c k x) (e:k≤k'):PtV c k' x:=⟨h.d,fun y q=>(h.xx y q).up e,fun y q=>(h.m y q).up e⟩
theorem pt_V (hc:c.Ok) {g:Gst} {s:St} (hO:OkG c g s.l) (h:VrW c M N s.l) (hN:N≤1000000000000) {x:Pt} (hx:PtI c g s.l x) (hv:PtV c (qw s.l 1) x):Vst c M (N+1) s.l (x.step s).2.l∧PtV c (qw (x.step s).2.l 1) (x.step s).1:=by
 unfold Pt.step;split
 ·exact ⟨vst_same h,hv⟩
 cases em:x.m with
 | some m =>
  obtain ⟨A,B⟩:=md_V hc hO h hN (hx.mi m em) (hv.m m em);refine ⟨A,?_⟩;simp only;split
  ·exact ⟨hv.d,fun y e=>A0l,fun y e=>A0l⟩
  ·exact ⟨hv.d,(hv.up A.up).xx,fun y e=>by simp only [Option.some.injEq] at e;rw [← e];exact B⟩
 | none =>
  cases ex:x.x with
  | some y =>
   obtain ⟨A,B⟩:=cl_V hc hO h (hx.xi em y ex) (hv.xx y ex);refine ⟨A,?_⟩;have kx:∀ z,some (y.step s).1=some z→ClV (qw (y.step s).2.l 1) z:=fun z e=>by simp only [Option.some.injEq] at e;rw [← e];exact B
   have km:=(hv.up A.up).m;simp only;split
   ·split
    ·exact A02
    ·exact ⟨hv.d,kx,fun z e=>by simp only [Option.some.injEq] at e;rw [← e];exact MdV.new _ _ _ _⟩
   ·exact A02
  | none =>
   have A:Vst c M (N+1) s.l (x.w.step s).2.l:=wk_V h _;refine ⟨A,?_⟩;simp only;split
   ·exact ⟨hv.d,fun z e=>by simp only [Option.some.injEq] at e;rw [← e];exact ⟨fun q=>absurd q (by simp [Cl.new]),hv.d⟩,fun z e=>A0o⟩
   ·exact ⟨hv.d,fun z e=>(by first | (simp only at e;rw [ex] at e;cases e) | cases e),fun z e=>A0o⟩
def GtV (k:Int) (x:Gt):Prop:=∀ y,x.l=some y→LokV k y
theorem gt_V (hc:c.Ok) {g:Gst} {s:St} (hO:OkG c g s.l) (h:VrW c M N s.l) {x:Gt} (hx:GtI c g x) (hv:GtV (qw s.l 1) x):Vst c M (N+1) s.l (x.step s).2.l∧GtV (qw (x.step s).2.l 1) (x.step s).1:=by
 unfold Gt.step;split
 ·exact ⟨vst_same h,hv⟩
 cases el:x.l with
 | some y =>
  obtain ⟨A,B⟩:=lok_V hc hO h (hx.l y el) (hv y el);exact ⟨A,fun z e=>by simp only [Option.some.injEq] at e;rw [← e];exact B⟩
 | none =>
  have A:Vst c M (N+1) s.l (x.w.step s).2.l:=wk_V h _;refine ⟨A,?_⟩;simp only;split
  ·exact fun z e=>by simp only [Option.some.injEq] at e;rw [← e];exact LokV.new _ _ _ _ _ _
  ·exact fun z e=>by first | (simp only at e;rw [el] at e;cases e) | cases e
structure SnV (M kk:Int) (x:Sn):Prop where
 q:0≤x.seq∧x.seq≤M
 k:KmV M x.k
 l:∀ y,x.l=some y→LokV kk y
theorem SnV.up {k k':Int} {x:Sn} (h:SnV M k x) (e:k≤k'):SnV M k' x:=⟨h.q,h.k,fun y q=>(h.l y q).up e⟩
theorem SnV.new {k:Int} (c':Cf) {t seq lo hi:Int} (h0:0≤seq) (h1:seq≤M):SnV M k (Sn.new c' t seq lo hi):=⟨⟨h0,h1⟩,⟨h0,h1⟩,fun y e=>A0l⟩
theorem SnV.chunk {k:Int} {x:Sn} (h:SnV M k x) (a:Int):SnV M k (x.chunk a):=⟨h.q,h.k,fun y e=>by unfold Sn.chunk at e;simp only [Option.some.injEq] at e;rw [← e];exact LokV.new _ _ _ _ _ _⟩
theorem sn_V (hc:c.Ok) {g:Gst} {s:St} (hO:OkG c g s.l) (h:VrW c M N s.l) (hN:N≤1000000000000) {x:Sn} (hx:SnI c g x) (hv:SnV M (qw s.l 1) x):Vst c M (N+1) s.l (x.step s).2.l∧SnV M (qw (x.step s).2.l 1) (x.step s).1:=by
 unfold Sn.step;by_cases l10:x.line=10
 ·rw [qf l10];split
  ·exact ⟨vst_same h,hv.q,hv.k,hv.l⟩
  ·obtain ⟨A,B⟩:=km_V hc h hN hx.k hv.k;refine ⟨A,?_⟩;have hu:=hv.up A.up;simp only;split
   ·exact ⟨hu.q,B,hu.l⟩
   ·exact ⟨hu.q,B,hu.l⟩
 rw [qd l10];by_cases l11:x.line=11
 ·rw [qf l11];cases ew:x.w with
  | none=>exact ⟨vst_same h,hv⟩
  | some y =>
   have A:Vst c M (N+1) s.l (y.step s).2.l:=wk_V h _;have hu:=hv.up A.up;refine ⟨A,?_⟩;simp only;split
   ·exact SnV.chunk (x:={ x with w:=some (y.step s).1 }) ⟨hu.q,hu.k,hu.l⟩ _
   ·exact ⟨hu.q,hu.k,hu.l⟩
 rw [qd l11];by_cases l1:x.line=1
 ·rw [qf l1];cases el:x.l with
  | none=>exact ⟨vst_same h,hv⟩
  | some y =>
   obtain ⟨A,B⟩:=lok_V hc hO h (hx.l l1 y el) (hv.l y el);have hu:=hv.up A.up;have kl:∀ z,some (y.step s).1=some z→LokV (qw (y.step s).2.l 1) z:=fun z e=>by simp only [Option.some.injEq] at e;rw [← e];exact B
   refine ⟨A,?_⟩;simp only;split
   ·exact ⟨hu.q,hu.k,kl⟩
   ·exact ⟨hu.q,hu.k,kl⟩
 rw [qd l1];by_cases l2:x.line=2
 ·rw [qf l2];exact ⟨vst_same h,hv.q,hv.k,hv.l⟩
 rw [qd l2];by_cases l3:x.line=3
 ·rw [qf l3];refine ⟨vst_same h,?_⟩;simp only;split
  ·exact hv.chunk _
  ·exact ⟨hv.q,hv.k,hv.l⟩
 rw [qd l3];by_cases l4:x.line=4
 ·rw [qf l4,Xd];have A:Vst c M (N+1) s.l (yl s.l (qa8 x.t) (wm x.seq 0)):=vst_psa hc h hx.t.1 hx.t.2 (seq_claim hv.q.1 hv.q.2);have hu:=hv.up A.up;exact ⟨A,hu.q,hu.k,hu.l⟩
 rw [qd l4];exact ⟨vst_same h,hv⟩
structure ThV (c:Cf) (M k:Int) (x:Th):Prop where
 p:∀ y,x.p=some y→PtV c k y
 g:∀ y,x.g=some y→GtV k y
 s:∀ y,x.s=some y→SnV M k y
theorem ThV.up {k k':Int} {x:Th} (h:ThV c M k x) (e:k≤k'):ThV c M k' x:=⟨fun y q=>(h.p y q).up e,fun y q z r=>(h.g y q z r).up e,fun y q=>(h.s y q).up e⟩
structure McV (M N:Int) (m:Mc):Prop where
 w:VrW m.c M N m.a.l
 t:∀ (i:Nat) (x:Th),m.t[i]? = some x→ThV m.c M (qw m.a.l 1) x
 r:∀ r,r∈m.ops→(r.length:Int)≤M
theorem McV.le {N':Int} {m:Mc} (h:McV M N m) (e:N≤N'):McV M N' m:=⟨h.w.le e,h.t,h.r⟩
theorem begun_V {N':Nat} {m:Mc} (h:MInv N' m) {k:Int} (hr:∀ r,r∈m.ops→(r.length:Int)≤M) {n:Nat} {x:Th} (hx:m.t[n]? = some x) (hn:x.next<((m.opsOf (n:Int)).length:Int)):ThV m.c M k (m.begun (n:Int)):=by
 have ht:=h.th n x hx;have h0:=ht.n0;have hs:=ht.s0;have e:m.th (n:Int)=x:=by unfold Mc.th;rw [Int.toNat_natCast,List.getD_eq_getElem?_getD,hx];rfl
 have hl:((m.opsOf (n:Int)).length:Int)≤M:=by
  unfold Mc.opsOf at hn ⊢;rw [qd A0f,Int.toNat_natCast,List.getD_eq_getElem?_getD] at hn ⊢;cases k:m.ops[n]? with
  | none=>rw [k] at hn;simp at hn;omega
  | some r=>exact hr r (List.mem_of_getElem? k)
 have newp:∀ (key d v:Int) (ds:List Int) (y:Pt),some (Pt.new m.c key (Ja d v) ds)=some y→PtV m.c k y:=fun key d v ds y e=>by simp only [Option.some.injEq] at e;rw [← e];exact ⟨by show 0≤Ja d v;unfold Ja hd;omega,fun y e=>A0l,fun y e=>A0l⟩
 unfold Mc.begun;rw [e];simp only;split
 ·exact A09
 ·split
  ·exact A09
  ·split
   ·exact ⟨fun y e=>A0l,fun y e=>by simp only [Option.some.injEq] at e;rw [← e];exact fun z q=>(by cases q),fun y e=>A0l⟩
   ·exact ⟨fun y e=>A0l,fun y e=>A0l,fun y e=>by simp only [Option.some.injEq] at e;rw [← e];exact SnV.new _ A0f A0f⟩
theorem steps_V {N' NI:Nat} {m:Mc} {g:Gst} (hM:MaI NI m.c m.a.l m.t g) (hI:MInv N' m) (h:McV M N m) (hN:N≤1000000000000) {n k:Nat} {x:Th} (hx:m.t[n]? = some x):McV M (N+1) (m.steps (n:Int) k):=by
 have e:m.th (n:Int)=x:=by unfold Mc.th;rw [Int.toNat_natCast,List.getD_eq_getElem?_getD,hx];rfl
 have hc:=hI.c;have ht:=hM.th n x hx;have hv:=h.t n x hx;have hnl:=(List.getElem?_eq_some_iff.1 hx).1
 have turn:∀ {a':St} {x':Th},Vst m.c M (N+1) m.a.l a'.l→ThV m.c M (qw a'.l 1) x'→∀ (i:Nat) (y:Th),(m.t.set n x')[i]? = some y→ThV m.c M (qw a'.l 1) y:=fun {a' x'} A B i y hy=>by
  by_cases k:i=n
  ·subst k;rw [List.getElem?_set_self hnl] at hy;cases hy;exact B
  ·rw [List.getElem?_set_ne (fun q=>k q.symm)] at hy;exact (h.t i y hy).up A.up
 unfold Mc.steps;simp only [e,Int.toNat_natCast];cases hp:x.p with
 | some p =>
  obtain ⟨A,B⟩:=pt_V hc hM.ok h.w hN (ht.tp p hp) (hv.p p hp);have hu:=hv.up A.up;exact ⟨A.w,turn A ⟨fun y e=>by simp only [Option.some.injEq] at e;rw [← e];exact B,hu.g,hu.s⟩,h.r⟩
 | none =>
  cases hg:x.g with
  | some y =>
   obtain ⟨A,B⟩:=gt_V hc hM.ok h.w (ht.tg y hg) (hv.g y hg);have hu:=hv.up A.up;exact ⟨A.w,turn A ⟨fun z e=>A0i,fun z e=>by simp only [Option.some.injEq] at e;rw [← e];exact B,hu.s⟩,h.r⟩
  | none =>
   cases hs:x.s with
   | some y =>
    obtain ⟨A,B⟩:=sn_V hc hM.ok h.w hN (ht.ts y hs) (hv.s y hs);exact ⟨A.w,turn A ⟨fun z e=>A0i,fun z e=>(by first | cases e | (simp only at e;rw [hg] at e;cases e) | (rw [hg] at e;cases e)),fun z e=>by simp only [Option.some.injEq] at e;rw [← e];exact B⟩,h.r⟩
   | none=>exact h.le A0f
theorem McV.same {m m':Mc} (h:McV M N m) (ec:m'.c=m.c) (ea:m'.a=m.a) (et:m'.t=m.t) (eo:m'.ops=m.ops):McV M N m':=⟨by rw [ec,ea];exact h.w,by rw [ec,ea,et];exact h.t,by rw [eo];exact h.r⟩
theorem notes_ops (m:Mc):m.notes.ops=m.ops:=A01
theorem pick_V {N' NI:Nat} {m:Mc} {g:Gst} (hM:MaI NI m.c m.a.l m.t g) (hI:MInv N' m) (h:McV M N m) (hN:N≤1000000000000) (t:Int):McV M (N+1) (m.pick t):=by
 unfold Mc.pick;split
 ·exact (h.le A0f).same rfl rfl rfl rfl
 ·rename_i ho;obtain ⟨n,x,rfl,hx,e,hb⟩:=Jf (by simpa using ho);simp only;have hnl:=(List.getElem?_eq_some_iff.1 hx).1
  have h1:MaI (NI+1) (if (m.th (n:Int)).busy=true then m else m.begins (n:Int)).c (if (m.th (n:Int)).busy=true then m else m.begins (n:Int)).a.l (if (m.th (n:Int)).busy=true then m else m.begins (n:Int)).t g∧MInv (N'+1) (if (m.th (n:Int)).busy=true then m else m.begins (n:Int))∧McV M N (if (m.th (n:Int)).busy=true then m else m.begins (n:Int))∧n<(if (m.th (n:Int)).busy=true then m else m.begins (n:Int)).t.length:=by
   split
   ·exact ⟨hM.more,hI.more,h,hnl⟩
   ·rename_i hb';rw [e] at hb';have hn:=hb (by simpa using hb');obtain ⟨b1,b2,b3⟩:=qbt (g:=g) (l:=m.a.l) hI hx hn;refine ⟨?_,hI.begins hx hn,⟨h.w,fun i y hy=>?_,h.r⟩,by simp [Mc.begins];exact hnl⟩
    ·unfold Mc.begins;simp only [Int.toNat_natCast];exact hM.turn hI.c hx (Goes.same hM.ok _ _) b1 (fun a i k=>absurd k (b2 a i)) (fun q k=>absurd k (b3 q))
    ·unfold Mc.begins at hy;simp only [Int.toNat_natCast] at hy;by_cases ei:i=n
     ·subst ei;rw [List.getElem?_set_self hnl] at hy;cases hy;exact begun_V hI h.r hx hn
     ·rw [List.getElem?_set_ne (fun k=>ei k.symm)] at hy;exact h.t i y hy
  generalize (if (m.th (n:Int)).busy=true then m else m.begins (n:Int))=m1 at *;obtain ⟨h1,hI1,hV1,hnl1⟩:=h1;split
  ·rename_i k hk;have h2:=steps_V h1 hI1 hV1 hN (k:=k) (List.getElem?_eq_getElem hnl1);generalize m1.steps (n:Int) k=m2 at *;obtain ⟨n1,n2,n3⟩:=q8b m2;have n4:=notes_ops m2;split
   ·exact h2.same n1 n2 n3 n4
   ·exact h2.same rfl rfl rfl rfl
  ·exact hV1.le A0f
theorem run_V {c:Cf} (hc:c.Ok):∀ (ps:List Int) (NI N':Nat) (N:Int) (m:Mc) (g:Gst),m.c=c→MaI NI c m.a.l m.t g→MInv N' m→McV M N m→NI+2 * ps.length≤4000000→N+ps.length≤1000000000000→McV M (N+ps.length) (ps.foldl Mc.pick m)
 | [],NI,N',N,m,g,e,hM,hI,h,_,_=>by simpa using h
 | p :: ps,NI,N',N,m,g,e,hM,hI,h,h1,h2=>by
  rw [List.length_cons] at h1 h2;obtain ⟨g1,k1,x1,c1⟩:=qcr (by rw [e];exact hM) hI A0f p;rw [c1,e] at k1;have kv:=pick_V (by rw [e];exact hM) hI h A0f p;have:=run_V hc ps (NI+2) (N'+4) (N+1) (m.pick p) g1 (c1.trans e) k1 (hI.pick p) kv A0f (by push_cast at h2;omega);rw [List.foldl_cons,List.length_cons];exact this.le (by push_cast;omega)
theorem begun_sp (hc:c.Ok) {p:Int} (h:SP c p):qw (Pl.begun c.t c.c c.wd).l p=0:=by
 have hl:((Pl.begun c.t c.c c.wd).l.length:Int)=c.wd:=Py
 have h14:=sp_low hc h;by_cases hp:p<c.wd
 ·exact A05
 ·exact q9n (.inr A0f)
theorem begun_spd (hc:c.Ok) {p:Int} (h:SP c p):qw (Pl.begun c.t c.c c.wd).l (p+2)=0:=by
 have hl:((Pl.begun c.t c.c c.wd).l.length:Int)=c.wd:=Py
 have h14:=sp_low hc h;by_cases hp:p+2<c.wd
 ·exact A05
 ·exact q9n (.inr A0f)
theorem init_V {rs:List (List O)} (ds:List Int) (hc:c.Ok) (h0:0≤M) (hr:∀ r,r∈rs→(r.length:Int)≤M):McV M 0 (Mc.new c rs ds):=by
 have hc1:=hc.t1;have hc8:=hc.t8;have hc2:=hc.c2;have htop:=hc.top
 have z:∀ p,0≤p→p<3+c.t→p≠2→qw (Pl.begun c.t c.c c.wd).l p=0:=fun p p0 p1 p2=>by rw [Qx hc p0 A0f];exact A0e
 have z1:=z 1 A0f A0f A0f;refine ⟨⟨?_,?_,fun p hp=>?_,fun p hp=>?_,fun t t0 t1=>?_⟩,fun i x hx=>?_,hr⟩
 ·show 0≤qw (Pl.begun c.t c.c c.wd).l 1;omega
 ·show qw (Pl.begun c.t c.c c.wd).l 1≤0;omega
 ·show qw (Pl.begun c.t c.c c.wd).l p≤qw (Pl.begun c.t c.c c.wd).l 1+3;rw [begun_sp hc hp];omega
 ·show 0≤qw (Pl.begun c.t c.c c.wd).l (p+2);rw [begun_spd hc hp];exact Int.le_refl _
 ·have e:qw (Pl.begun c.t c.c c.wd).l (3+t)=0:=z (3+t) A0f (by show 3+t<3+c.t;have:t<c.t:=t1;omega) A0f;have e2:qw (Mc.new c rs ds).a.l (3+t)=0:=e;rw [e2];unfold q54;simp;exact h0
 ·unfold Mc.new at hx;simp only [List.getElem?_replicate] at hx;split at hx
  ·cases hx;exact ⟨fun y e=>A0l,fun y e=>A0l,fun y e=>A0l⟩
  ·cases hx
end
theorem runP_V {c:Cf} {M:Int} {rs:List (List O)} (ds:List Int) (hc:c.Ok) (hI:MInv 1 (Mc.new c rs ds)) (h0:0≤M) (hr:∀ r,r∈rs→(r.length:Int)≤M) (ps:List Int) (hp:ps.length≤2000000):VrW c M ps.length (q7w c rs ds ps).a.l:=by have h:=run_V (M:=M) hc ps 0 1 0 (Mc.new c rs ds) (g0 c) rfl (qe0 hc) hI (init_V ds hc h0 hr) A0f A0f;obtain ⟨g,-,e⟩:=runP_I (rs:=rs) ds hc hI ps hp;have:=h.w;unfold q7w at e ⊢;rw [e] at this;simpa using this
end Go.Proofs.YtaccfepnhmgagaaGreatDoor.Mx
