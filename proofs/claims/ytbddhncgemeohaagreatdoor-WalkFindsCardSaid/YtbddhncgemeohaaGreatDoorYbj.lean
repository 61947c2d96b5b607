/- Parts. -/
import Derived.Test.YtbddhncgemeohaaGreatDoorYbh
import Derived.Test.YtbddhncgemeohaaGreatDoorYbi
set_option linter.unusedVariables false
set_option linter.unusedSimpArgs false
set_option maxRecDepth 100000
set_option maxHeartbeats 12800000
namespace Go.Proofs.YtbddhncgemeohaaGreatDoor.Mx
open Go.RowKit Ar Ref Ch
variable {c:Cf} {g:Gst}
def wkM (c:Cf) (g:Gst) (x:Wk):Nat :=
 if x.line=0 then 0 else if x.line=1 then 140 else if x.line=2 then 139 else if x.line=3 then 138
 else if x.line=5 then (if x.cur=zq c then 137 else 2 * (64 - g.M.F x.cur 0).toNat+1)
 else (if x.cur=zq c then 136 else 2 * (64 - g.M.F x.cur 0).toNat)
theorem qb9 (key:Int):wkM c g (Wk.new c key)=140:=by unfold wkM Wk.new;simp
theorem qde (hc:c.Ok) {s:St} (h:OkG c g s.l) {x:Wk} (hx:WkI c g x) (h0:x.line≠0):wkM c g (x.step s).1<wkM c g x:=by
 have hl:x.live=true:=hx.ln.resolve_left h0;have hlv:=hl;unfold Wk.live at hlv;simp only [Bool.or_eq_true,decide_eq_true_eq] at hlv;have e:(x.step s).1=x.next (qx s.l x.looks):=by unfold Wk.step;rw [qg hl]
 rw [e];have head5:∀ y:Wk,y.c=c->wkM c g y.head=137:=fun y e1=>by unfold wkM Wk.head;simp [e1]
 have ends0:∀ y:Wk,wkM c g y.ends=0:=fun y=>by unfold wkM Wk.ends;simp
 have at5:∀ y:Wk,g.K y.cur->y.line=5->wkM c g y=2 * (64 - g.M.F y.cur 0).toNat+1:=fun y hk hl=>by
  have hne:y.cur≠zq c:=fun q=>by rw [q] at hk;exact absurd hk (ko hc h)
  unfold wkM;simp [hl,hne]
 have at5le:∀ y:Wk,g.K y.cur->y.line=5->wkM c g y<=129:=fun y hk hl=>by rw [at5 y hk hl];have:=h.ki.mn _ hk;omega
 generalize qx s.l x.looks=v at *;unfold Wk.next;rcases (by omega:x.line=1\/x.line=2\/x.line=3\/x.line=5\/x.line=6) with l1 | l2 | l3 | l5 | l6
 ·have em:wkM c g x=140:=by unfold wkM;simp [l1]
  rw [em,qg l1];split
  ·exact I6
  ·unfold wkM;simp
 ·have em:wkM c g x=139:=by unfold wkM;simp [l2]
  rw [em,qf Ly,qg l2];split
  ·unfold wkM;simp
  ·exact I6
 ·have em:wkM c g x=138:=by unfold wkM;simp [l3]
  rw [em,qf Ly,qf Ly,qg l3];split
  ·have hk:=hx.x2 (.inr l3);have:=at5le { x with cur:=x.x,line:=5 } hk rfl;omega
  ·exact I6
 ·rw [qf Ly,qf Ly,qf Ly,qg l5];split
  ·rw [ends0];unfold wkM;simp [l5];split <;> omega
  ·unfold wkM;simp [l5];split <;> omega
 ·obtain ⟨hn,hn1,hn2⟩:=hx.n6 l6;rw [qf Ly,qf Ly,qf Ly,qf Ly]
  have hmc:1<=wkM c g x:=by
   unfold wkM;simp only [l6];rcases hx.c5 (.inr l6) with ⟨hK,hm⟩ | hh
   ·have hne:x.cur≠zq c:=fun q=>by rw [q] at hK;exact absurd hK (ko hc h)
    have:=h.ki.mn _ hK;simp [hne];omega
   ·simp [hh]
  split
  ·rw [at5 { x with cur:=x.n,line:=5 } hn rfl];show 2 * (64 - g.M.F x.n 0).toNat+1<_;rcases hx.c5 (.inr l6) with ⟨hK,hm⟩ | hh
   ·have hne:x.cur≠zq c:=fun q=>by rw [q] at hK;exact absurd hK (ko hc h)
    have h1:=h.ki.mn _ hK;have h2:=hn2 hK;have h3:=h.ki.mn _ hn;have em:wkM c g x=2 * (64 - g.M.F x.cur 0).toNat:=by unfold wkM;simp [l6,hne]
    rw [em];omega
   ·have em:wkM c g x=136:=by unfold wkM;simp [l6,hh]
    have h3:=h.ki.mn _ hn;rw [em];omega
  ·rw [ends0];omega
theorem qbh (hc:c.Ok) {s:St} (h:OkG c g s.l) {x:Wk} (hx:WkI c g x) (l5:x.line=5):atU (qx s.l x.looks)=atW (qx s.l x.looks):=by
 have e:x.looks=wrap64 (x.cur+2):=by unfold Wk.looks;simp [l5]
 rw [e];rcases hx.c5 (.inl l5) with ⟨hK,hm⟩ | hh
 ·rw [rd hc h hK Ly Nt];have:=q8f hc h hK;exact Hj
 ·obtain ⟨a,ha,e1,e2⟩:=h.ki.hd
  have hp:qx s.l (wrap64 (x.cur+2))=2 * a:=Gd
  rw [hp];have:=Kq hc h ha;have hl:=Rel.low hc h ha;have ht:=hc.t1;exact Hj
end Go.Proofs.YtbddhncgemeohaaGreatDoor.Mx
