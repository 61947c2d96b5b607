/- Parts. -/
import Derived.Test.YtleclbldlladmaaGreatJaa
import Derived.Test.YtleclbldlladmaaGreatVbi
import Derived.Test.YtleclbldlladmaaGreatJab
set_option linter.unusedVariables false
set_option linter.unusedSimpArgs false
set_option maxRecDepth 100000
namespace Go.Proofs.YtleclbldlladmaaGreat.Le_u
open Go.RowKit Go.Proofs.YtleclbldlladmaaGreat.Ar Go.Proofs.YtleclbldlladmaaGreat.Ref Go.Proofs.YtleclbldlladmaaGreat.Mx
section
variable {c:Cf} {g:Gst} {s:St}
theorem fw_K (hc:c.Ok) (h:OkG c g s.l) {a:Int} (ha:g.K a) {f:Int} (h0:0≤f) (h6:f≤6):Fw_u s a f=g.M.F a f:=by have:=hc.c2;have:=hc.t1;exact h.rel.F a ha f h0 (by unfold z6;omega)
theorem wd_of (hc:c.Ok) (h:OkG c g s.l):Wd g.K s:=by
 have hl:=h.rel.len;have hw:=hc.w2;have hs:7≤z6 c:=by have:=hc.c2;have:=hc.t1;unfold z6;omega
 refine ⟨by omega,fun a ha=>?_,fun a b ha hb e=>?_,fun a ha=>?_,fun a ha=>?_⟩
 ·have h1:=Wm hc h ha;have h2:=Rel.low hc h ha;omega
 ·rcases q8f hc (h.ki.al a ha).1 (h.ki.al b hb).1 e with k | k <;> omega
 ·rw [fw_K hc h ha A0f A0f];exact (h.ki.ld a ha).imp id fun k=>k.1
 ·rw [fw_K hc h ha A0f A0f];have:=q8o hc h ha;exact ⟨this.1,by omega,(h.ki.nx a ha).imp (fun k=>k.1) fun k=>k.1⟩
theorem mt_of (hc:c.Ok) (h:OkG c g s.l):∀ a,g.K a→Fw_u s a 4=0∨Fw_u s a 4=1∨Fw_u s a 4=Fw_u s a 2 / 2:=fun a ha=>by
 rw [fw_K hc h ha A0f A0f,fw_K hc h ha A0f A0f];rcases h.ki.mt a ha with k | k | ⟨k1,k2,k3⟩
 ·exact .inl k
 ·exact .inr (.inl k)
 ·exact .inr (.inr k2.symm)
theorem sf_of (hc:c.Ok) (h:OkG c g s.l) {k:Int} (hk:g.K k):Fw_u s k 3≠0→Fw_u s (Fw_u s k 3) 3=Fw_u s k 3:=fun e=>by
 rw [fw_K hc h hk A0f A0f] at e ⊢;have hK:=((h.ki.ld k hk).resolve_left e).1;rw [fw_K hc h hK A0f A0f];exact (h.bg.ld k hk e).2
theorem inj_of (hc:c.Ok) (h:OkG c g s.l):∀ a b f g',g.K a→g.K b→0≤f→f<z6 c→0≤g'→g'<z6 c→a+f=b+g'→a=b∧f=g' :=
 fun a b f g' ha hb h0 h1 h2 h3 e=>qcq hc (h.ki.al a ha).1 (h.ki.al b hb).1 ⟨h0,h1⟩ ⟨h2,h3⟩ e
theorem pick_K (hc:c.Ok) (h:OkG c g s.l) {i:Int} (hi:0≤i):g.K (Pick16.pickV c s i)∧∀ x∈Rf.q93 (qw s.l) s.l.length c.c.toNat c.t,g.K x:=by
 obtain ⟨L,C⟩:=chn_ex hc h;have hn:c.c=((c.c.toNat:Nat):Int):=by have:=hc.c2;have:=hc.t1;omega
 have e:=C.q93 hc h hn;refine ⟨?_,fun x hx=>C.p.mem x (by rw [← e];exact hx)⟩;unfold Pick16.pickV;rw [e];have l0:L.length≠0:=fun k=>C.ne (List.eq_nil_of_length_eq_zero k)
 rw [qd l0];have hm:=Int.emod_lt_of_pos i (show (0:Int)<L.length by omega);have hm0:=Int.emod_nonneg i (show (L.length:Int)≠0 by omega);rw [List.getD_eq_getElem?_getD,List.getElem?_eq_getElem (show (i % (L.length:Int)).toNat<L.length by omega)];exact C.p.mem _ (List.getElem_mem _)
end
end Go.Proofs.YtleclbldlladmaaGreat.Le_u
