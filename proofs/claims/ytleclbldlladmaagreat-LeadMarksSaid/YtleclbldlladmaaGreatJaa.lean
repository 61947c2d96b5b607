/- Parts. -/
import Derived.Test.YtleclbldlladmaaGreatVaa
import Derived.RegionTactic
import Derived.Deep.RegionHeld3
import Derived.Deep.QuietTactic
import Derived.Maps.RangeWalk
import Derived.Test.YtleclbldlladmaaGreatVac
import Derived.Test.YtleclbldlladmaaGreatVad
import Derived.Test.YtleclbldlladmaaGreatVbn
set_option linter.unusedVariables false
set_option linter.unusedSimpArgs false
set_option maxRecDepth 100000
namespace Go.Proofs.YtleclbldlladmaaGreat
theorem A0i {p:Prop} (h:p:=by rw [F a 4 ha (by decide) (by decide),qd (by omega)];exact e1):p:=h
theorem A0j {p:Prop} (h:p:=by have:=h.hx.l1 (by omega);rw [h.cx] at this;exact this):p:=h
theorem A0k {p:Prop} (h:p:=by simp [results,Tryz.results12,go_sem]):p:=h
theorem A0m {p:Prop} (h:p:=by simp;exact HNE.out.1.symm):p:=h
theorem A0n {p:Prop} (h:p:=by simp;exact HNE.out.2.symm):p:=h
theorem A0o {p:Prop} (h:p:=by have := HW.out.1; omega):p:=h
theorem A0p {p:Prop} (h:p:=by simp;exact HNE.out):p:=h
theorem A0g {p:Prop} (h:p:=by kernel_rfl):p:=h
theorem A0l {p:Prop} (h:p:=by rw [e1]):p:=h
theorem A0f {p:Prop} (h:p:=by decide):p:=h
theorem A0e {p:Prop} (h:p:=by omega):p:=h
theorem A0h {p:Prop} (h:p:=by simp):p:=h
theorem Po {p:Prop} (h:p:=by
  unfold PostA;obtain ⟨c0,c1,c2,c3,c4,c5,c6,c7,c8,c9,c10,c11,c12,c13,c14⟩:=lx_cells h ho;have HH:=q9 h;have HNE:=q9 hne;have HL:=q9 (fun (wz:World) (Fz:Fr [] w wz)=>ldr_any (Pb.up h Fz) ho);have HN:=q9 (fun (wz:World) (Fz:Fr [] w wz)=>nxt_any (Pb.up h Fz) ho);rw [hl] at c3;generalize hyd:y.drow=yd_u;have HD:=q9 hyd;clear hyd;unfold Lx_u.told Lx_u.act;simp only [hl,Int.reduceEq,if_true,if_false,or_true,true_or,or_self];have HLN:=q9 hl;clear h hl ho hne;generalize hn:y.n=n at *;have HY:=q9 hn;clear hn;go_enter Tryz.func30,Tryz.ntmps30;go_wp2_with fail;refine (HL.out _ (Fr.refl _ _)).mono ?_;rintro e _ ⟨rfl,rfl⟩;go_wp2_with fail;refine (HN.out _ (Fr.refl _ _)).mono ?_;rintro e _ ⟨rfl,rfl⟩;go_wp2_with fail;refine (Ar.zl _ p q s _ hA).mono ?_;rintro e w4 ⟨rfl,A4,F4⟩;exact A0d
 ):p:=h
theorem Pp {p:Prop} (h:p:=by
  go_enter Tryz.func31,Tryz.ntmps31;go_wp2_with fail;refine R5 A0g A0g ?_;repeat (go_big_quiet_step (fail))
  refine wpQuiet_nil ?_;intro w2 F2;clear k3 kf;obtain ⟨h2,hl2⟩:=HC.out w2 F2;obtain ⟨c0,c1,c2,c3,c4,c5,c6,c7,c8,c9,c10,c11,c12,c13,c14⟩:=lx_cells h2 HO.out;rw [hl2] at c3;clear h2 hl2 c0 c1 c2 c4 c5 c6 c7 c8 c9 c10 c11 c12 c13 c14;exact A0c
 ):p:=h
theorem Pq {p:Prop} (h:p:=by
  cases g:mkL v
  ·rw [qd A0f];exact A09
  ·rw [qf A0f];exact A09
 ):p:=h
theorem Ps {p:Prop} (h:p:=by
  unfold PostA;obtain ⟨c0,c1,c2,c3,c4,c5,c6,c7,c8,c9,c10,c11,c12,c13,c14⟩:=lx_cells h ho;have HH:=q9 h;have HNE:=q9 hne;have HL:=q9 (fun (wz:World) (Fz:Fr [] w wz)=>ldr_any (Pb.up h Fz) ho);have HN:=q9 (fun (wz:World) (Fz:Fr [] w wz)=>nxt_any (Pb.up h Fz) ho);rw [hl] at c3;generalize hyd:y.drow=yd_u;have HD:=q9 hyd;clear hyd;unfold Lx_u.told Lx_u.act;simp only [hl,Int.reduceEq,if_true,if_false,or_true,true_or,or_self];have HLN:=q9 hl;clear h hl ho hne;generalize hn:y.n=n at *;have HY:=q9 hn;clear hn;go_enter Tryz.func30,Tryz.ntmps30;go_wp2_with fail;refine (HL.out _ (Fr.refl _ _)).mono ?_;rintro e _ ⟨rfl,rfl⟩;go_wp2_with fail;refine (HN.out _ (Fr.refl _ _)).mono ?_;rintro e _ ⟨rfl,rfl⟩;go_wp2_with fail;refine (swm_any _ _ hA).mono ?_;rintro e w4 ⟨rfl,A4,F4⟩;exact A0d
 ):p:=h
theorem Pu {p:Prop} (h:p:=by
  go_wp2;exact A0a
 ):p:=h
theorem Pv {p:Prop} (h:p:=by
  clear g;go_enter Tryz.func31,Tryz.ntmps31;go_wp2_with fail;refine R5 A0g A0g ?_;repeat (go_big_quiet_step (fail))
  refine wpQuiet_nil ?_;intro w2 F2;clear k3 kf;obtain ⟨h2,hl2⟩:=HC.out w2 F2;obtain ⟨c0,c1,c2,c3,c4,c5,c6,c7,c8,c9,c10,c11,c12,c13,c14⟩:=lx_cells h2 HO.out;rw [hl2] at c3;clear h2 hl2 c0 c1 c2 c4 c5 c6 c7 c8 c9 c10 c11 c12 c13 c14;go_wp2_with fail;refine (HL.out _ F2).mono ?_;rintro e _ ⟨rfl,rfl⟩;exact A0c
 ):p:=h
theorem Pw {p:Prop} (h:p:=by
  rw [go_st A0e];refine ⟨?_,?_⟩
  ·unfold Lx_u.step Lx_u.drow Lx_u.told;simp [l];unfold Lx_u.put Lx_u.behL;simp [l]
  ·unfold Lx_u.act;simp [l]
 ):p:=h
theorem Px {p:Prop} (h:p:=by
  unfold Lx_u.step Lx_u.drow Lx_u.told;simp [l];unfold Lx_u.put Lx_u.behL;simp [l]
 ):p:=h
theorem Py {p:Prop} (h:p:=by
  go_wp2;go_ret;exact ⟨rfl,F2⟩
 ):p:=h
theorem Pz {p:Prop} (h:p:=by
  go_wp2_with fail;refine HN.out.mono ?_;rintro e _ ⟨rfl,rfl⟩;go_wp2;go_ret;exact ⟨rfl,rfl⟩
 ):p:=h
theorem A00 {p:Prop} (h:p:=by
  rw [go_st A0e];refine ⟨?_,?_⟩
  ·unfold Lx_u.step Lx_u.drow Lx_u.told;simp [l];unfold Lx_u.put Lx_u.behL;simp [l,Lx_u.mateL,Lx_u.n];rfl
  ·unfold Lx_u.act;simp [l,St.load];rfl
 ):p:=h
theorem A01 {p:Prop} (h:p:=by
  rw [show qw (x.go s).2.l j=qw s.l j by rw [e];exact pk_ne ej];exact old j
 ):p:=h
theorem A02 {p:Prop} (h:p:=by
  go_wp2;go_ret;exact ⟨rfl,rfl⟩
 ):p:=h
theorem A03 {p:Prop} (h:p:=by
  unfold Alone;rw [← hn];rcases e2 with e2 | e2 | e2
  ·exact .inl e2
  ·exact .inr (.inl e2)
  ·exact .inr (.inr e2.2.2)
 ):p:=h
theorem A04 {p:Prop} (h:p:=by
  split at e1
  ·rw [r11 (z:=(y.go s).1) A0l];decide
  ·rw [r7 (z:=(y.go s).1) A0l];decide
 ):p:=h
theorem A05 {p:Prop} (h:p:=by
  unfold Lx_u.act;simp [l,St.load];rfl
 ):p:=h
theorem A06 {p:Prop} (h:p:=by
  rcases h.mt _ hf with k | k | k
  ·exact absurd k h6
  ·exact absurd k h7.1
  ·rw [k,← hn]
 ):p:=h
theorem A07 {p:Prop} (h:p:=by
  rcases m2 with m2 | m2
  ·left;exact hp.trans m2
  ·exact .inr (.inl m2)
 ):p:=h
theorem A08 {p:Prop} (h:p:=by
  simp only [sel];repeat (go_big_quiet_step (fail))
  exact wpQuiet_nil rfl
 ):p:=h
theorem A09 {p:Prop} (h:p:=by
  go_enter Tryz.func31,Tryz.ntmps31;go_wp2_with fail;refine R5 A0g A0g ?_;repeat (go_big_quiet_step (fail))
  refine wpQuiet_nil ?_;intro w2 F2;clear k3 kf;obtain ⟨h2,hl2⟩:=HC.out w2 F2;obtain ⟨c0,c1,c2,c3,c4,c5,c6,c7,c8,c9,c10,c11,c12,c13,c14⟩:=lx_cells h2 HO.out;rw [hl2] at c3;clear h2 hl2 c0 c1 c2 c4 c5 c6 c7 c8 c9 c10 c11 c12 c13 c14;go_wp2_with fail;refine (Yh _ _).mono ?_;rintro e _ ⟨rfl,rfl⟩;rw [g];go_wp2;go_ret;exact ⟨rfl,F2⟩
 ):p:=h
theorem A0a {p:Prop} (h:p:=by
  go_ret;exact ⟨rfl,by rw [← HD.out];unfold Lx_u.drow;rw [qd (by rw [HLN.out];decide)];exact Pb.kept HH.out F4 A0p,A4,F4.mono A0h⟩
 ):p:=h
theorem A0b {p:Prop} (h:p:=by
  rw [go_st A0e];refine ⟨?_,?_⟩
  ·exact Px
  ·exact A05
 ):p:=h
theorem A0c {p:Prop} (h:p:=by
  go_wp2;go_ret;exact ⟨rfl,F2⟩
 ):p:=h
theorem A0d {p:Prop} (h:p:=by
  clear c0 c1 c2 c3 c4 c5 c6 c7 c8 c9 c10 c11 c12 c13 c14;go_wp2;exact A0a
 ):p:=h
end Go.Proofs.YtleclbldlladmaaGreat
namespace Go.Proofs.YtleclbldlladmaaGreat.Mx
end Go.Proofs.YtleclbldlladmaaGreat.Mx
namespace Go.Proofs.YtleclbldlladmaaGreat
end Go.Proofs.YtleclbldlladmaaGreat
namespace Go.Proofs.YtleclbldlladmaaGreat.Ref
end Go.Proofs.YtleclbldlladmaaGreat.Ref
namespace Go.Proofs.YtleclbldlladmaaGreat
end Go.Proofs.YtleclbldlladmaaGreat
namespace Go.Proofs.YtleclbldlladmaaGreat.Rf
end Go.Proofs.YtleclbldlladmaaGreat.Rf
namespace Go.Proofs.YtleclbldlladmaaGreat
end Go.Proofs.YtleclbldlladmaaGreat
namespace Go.Proofs.YtleclbldlladmaaGreat.Ch
end Go.Proofs.YtleclbldlladmaaGreat.Ch
namespace Go.Proofs.YtleclbldlladmaaGreat
end Go.Proofs.YtleclbldlladmaaGreat
namespace Go.Proofs.YtleclbldlladmaaGreat.Og
end Go.Proofs.YtleclbldlladmaaGreat.Og
namespace Go.Proofs.YtleclbldlladmaaGreat
end Go.Proofs.YtleclbldlladmaaGreat
namespace Go.Proofs.YtleclbldlladmaaGreat.Op10
end Go.Proofs.YtleclbldlladmaaGreat.Op10
namespace Go.Proofs.YtleclbldlladmaaGreat
end Go.Proofs.YtleclbldlladmaaGreat
namespace Go.Proofs.YtleclbldlladmaaGreat.Vw
end Go.Proofs.YtleclbldlladmaaGreat.Vw
namespace Go.Proofs.YtleclbldlladmaaGreat
end Go.Proofs.YtleclbldlladmaaGreat
namespace Go.Proofs.YtleclbldlladmaaGreat.Ar
open Go.RowKit
section
variable {P:Program} {ops:Array Oper} {Q:Exit→Act→World→Prop} {md:Region.Mode} {C:World→Prop} {LA:Array Bool} {g:Nat}
theorem K8.firstT (hC:∀ w w2,C w→Fr [] w w2→C w2) {i:Nat} {oi:Oper} {v:Value} (hi:ops[i]? = some oi) (hsel:Region.noSelect ops=true) (hLB:q9p md ops LA i=true)
  (hQ:∀ c a d v w,Q (.panic c) (a.put d v) w→Q (.panic c) a w):∀ (f:Nat) (listed:Array Bool) (a:Act) (w:World),
   (∀ j oj,ops[j]? = some oj→j≠i→listed.getD j true=false→(∀ e∈oj.after,Region.binds md e=true→e.on≠i)→oi.apart ops oj=true) →
   Clo md ops listed→i∈Region.ready md ops listed→Y3 P ops C oi v a→C w →
   K8 P md ops Q C LA g f (listed.setIfInBounds i true) (a.put oi.dst v) w→K8 P md ops Q C LA g (f+1) listed a w
 | f,listed,a,w,hfree,hcl,hr,hy,hw,H=>fun w2 h2=>by
  refine ⟨fun h=>(by rw [h] at hr;cases hr),fun j hj=>?_⟩;by_cases hji:j=i
  ·subst hji;exact hy.wpOp hi (hC _ _ hw h2) fun w' hw'=>⟨hC _ _ (hC _ _ hw h2) hw',H.more (h2.trans hw')⟩
  ·have hj':=ready_mono (i:=i) hj hji;obtain ⟨hjun,oj,hoj,hall⟩:=mem_ready.1 hj
   have hnot:∀ e∈oj.after,Region.binds md e=true→e.on≠i:=fun e he hb heq=>by
    have g1:=hall e he hb;have g0:=(mem_ready.1 hr).1;rw [heq] at g1;rcases Nat.lt_or_ge i listed.size with h' | h'
    ·simp [h'] at g0 g1;rw [g0] at g1;cases g1
    ·simp [Array.getElem?_eq_none h'] at g1
   cases f with
   | zero =>
    have hLA:=(H w2 h2).1;rcases q30 hLB with hLB | ⟨k,ok,klt,k1,k2,k3,e,he,hb,hon⟩
    ·rw [hLA] at hj';obtain ⟨ok,hok,e,he,hb,hon⟩:=Xk hLB (mem_ready.1 hj').1;rw [hoj] at hok;cases hok;exact absurd hon (hnot e he hb)
    ·rw [← hLA,getD_set_ne false (Ne.symm k2)] at k1;have c1:=hcl k ok k1 k3 e he hb;rw [hon] at c1;have g0:=(mem_ready.1 hr).1;rcases Nat.lt_or_ge i listed.size with h' | h'
     ·simp [h'] at g0 c1;rw [g0] at c1;cases c1
     ·have:=Array.getElem?_eq_none h';simp [this] at g0
   | succ f =>
    have h1:=(H w2 h2).2 j hj';have g2:=hy.other hoj (hfree j oj hoj hji hjun hnot) (fun cs b=>Region.noSelect_spec hsel i oi cs b hi) (fun cs b=>Region.noSelect_spec hsel j oj cs b hoj) hQ h1
    have hfree':∀ k ok,ops[k]? = some ok→k≠i→(listed.setIfInBounds j true).getD k true=false →
      (∀ e∈ok.after,Region.binds md e=true→e.on≠i)→oi.apart ops ok=true:=fun k ok hk hki hun hno=>by
     refine hfree k ok hk hki ?_ hno
     by_cases hjk:j=k
     ·subst hjk;exact hjun
     ·rw [getD_set_ne true hjk] at hun;exact hun
    refine wpOp_mono (fun a' w' h3=>⟨h3.2.1,K8.firstT hC hi hsel hLB hQ f (listed.setIfInBounds j true) a' w' hfree' (hcl.set hj) (ready_mono hr (Ne.symm hji)) h3.1 h3.2.1 ?_⟩) g2;rw [Array.setIfInBounds_comm _ _ hji];exact h3.2.2
theorem envCT_pass_list (hC:∀ w w2,C w→Fr [] w w2→C w2) (hs:Region.noSelect ops=true) (hQ:∀ c a d v w,Q (.panic c) (a.put d v) w→Q (.panic c) a w) {aE:Act} {n f:Nat} :
  ∀ (m:List Bool) (L:List Oper) (k:Nat) (listed:Array Bool) (a:Act) (w:World),(∀ j,L[j]? = ops[k+j]?)→Clo md ops listed→Qj md ops k m listed=true→Sj md ops LA k m=true→Tu n (sel m L)=true→a.tmps.size=n→C w →
   (∀ wf,C wf→wpQuiet P ops (fun w'=>∃ s:In wf,w'=s.at_) (fun a'=>a'=aE) (sel m L) a)→K8 P md ops Q C LA g f (Vd k m listed) aE w→K8 P md ops Q C LA g (f+countB m) listed a w
 | [],L,k,listed,a,w,_,_,_,_,_,_,hw,h,H=>by
  have h0:a=aE:=by have:=h w hw;cases L <;> exact this
  subst h0;exact H
 | false :: m,[],k,listed,a,w,hL,hCl,hB,hW,hd,hn,hw,h,H=>envCT_pass_list hC hs hQ m [] (k+1) listed a w (fun j=>by have:=hL (j+1);simpa [Nat.add_assoc,Nat.add_comm 1 j] using this) hCl hB hW (by cases m with | nil=>rfl | cons b m=>cases b <;> rfl) hn hw (fun wf hf=>by have:=h wf hf;cases m with | nil=>exact this | cons b m=>cases b <;> exact this) H
 | false :: m,o :: L,k,listed,a,w,hL,hCl,hB,hW,hd,hn,hw,h,H=>envCT_pass_list hC hs hQ m L (k+1) listed a w (fun j=>by have:=hL (j+1);simpa [Nat.add_assoc,Nat.add_comm 1 j] using this) hCl hB hW hd hn hw h H
 | true :: m,[],k,listed,a,w,hL,hCl,hB,_,_,_,_,_,_=>by
  exfalso
  simp only [Qj,Bool.and_eq_true] at hB
  have hr:k∈Region.ready md ops listed:=by simpa using hB.1.1
  obtain ⟨_,o,ho,_⟩:=mem_ready.1 hr
  have:=hL 0
  simp [ho] at this
 | true :: m,o :: L,k,listed,a,w,hL,hCl,hB,hW,hd,hn,hw,h,H=>by
  simp only [Sj,Bool.and_eq_true] at hW
  obtain ⟨hW1,hW2⟩:=hW
  have h0:ops[k]? = some o:=by simpa using (hL 0).symm
  simp only [Qj,Bool.and_eq_true] at hB
  obtain ⟨⟨hr,hf⟩,hB'⟩:=hB
  simp only [sel,Tu,Bool.and_eq_true] at hd
  obtain ⟨hd1,hd2⟩:=hd
  have key:∃ v,Y3 P ops C o v a∧∀ wf,C wf→wpQuiet P ops (fun w'=>∃ s:In wf,w'=s.at_) (fun a'=>a'=aE) (sel m L) (a.put o.dst v):=by
   by_cases hw1:Region.wanted o (yielded ops a.tmps)=true
   ·have h':∀ wf,C wf→o.quiet P a (fun w'=>∃ s:In wf,w'=s.at_) (wpQuiet P ops (fun w'=>∃ s:In wf,w'=s.at_) (fun a'=>a'=aE) (sel m L)):=fun wf hf=>by
     have:=h wf hf
     simp only [sel,wpQuiet] at this
     rwa [qf hw1] at this
    obtain ⟨v,_,hv2⟩:=h' w hw
    have same:∀ wf,C wf→∀ u,wpQuiet P ops (fun w'=>∃ s:In wf,w'=s.at_) (fun a'=>a'=aE) (sel m L) (a.put o.dst u)→o.dst=none∨u=v:=fun wf hf u hu=>by
     cases hod:o.dst with
     | none=>exact .inl rfl
     | some d =>
      rw [hod] at hd1 hu hv2
      simp only [Bool.and_eq_true,decide_eq_true_eq] at hd1
      have e1:=vq (sel m L) _ hd1.2 hu
      have e2:=vq (sel m L) _ hd1.2 hv2
      have hlt:d<a.tmps.size:=by rw [hn];exact hd1.1
      rw [e1] at e2
      simp [Act.put,hlt] at e2
      exact .inr e2
    refine ⟨v,.inl ⟨hw1,fun wf hf=>?_⟩,fun wf hf=>?_⟩
    ·obtain ⟨u,hu1,hu2⟩:=h' wf hf
     refine ⟨u,?_,same wf hf u hu2⟩
     have hq:=hu1 wf ⟨⟨wf,Fr.refl _ _⟩,rfl⟩
     unfold Oper.quietAt at hq ⊢
     generalize (execOp a.eval o).run P wf=r at *
     cases r with
     | ok x w' =>
      cases x <;> simp only [Oper.quietUpon] at hq ⊢
      case value=>exact hq
      case skip=>exact hq
      case enter g args=>exact ⟨hq.1,hq.2.mono fun e w'' ⟨he,s,hs⟩=>⟨he,hs ▸ s.fr⟩⟩
     | halt x w'=>exact hq
    ·obtain ⟨u,_,hu2⟩:=h' wf hf
     rw [← Zr (same wf hf u hu2)];exact hu2
   ·refine ⟨undef,.inr ⟨by simpa using hw1,rfl⟩,fun wf hf=>?_⟩
    have:=h wf hf
    simp only [sel,wpQuiet] at this
    rwa [qd hw1] at this
  obtain ⟨v,hy,hK⟩:=key
  exact K8.firstT hC h0 hs hW1 hQ (f+countB m) listed a w (Region.free_spec h0 hf) hCl (by simpa using hr) hy hw
   (envCT_pass_list hC hs hQ m L (k+1) _ _ w (fun j=>by have:=hL (j+1);simpa [Nat.add_assoc,Nat.add_comm 1 j] using this) (hCl.set (by simpa using hr)) hB' hW2 hd2 (by rw [size_put];exact hn) hw hK H)
end
section
variable {P:Program} {l:List Oper} {Q:Exit→Act→World→Prop} {C:World→Prop} {LA:Array Bool} {g:Nat}
theorem envCT_pass (hC:∀ w w2,C w→Fr [] w w2→C w2) (m:List Bool) (f:Nat) {g' n:Nat} {listed listed':Array Bool} {a:Act} {w:World} (hf:f+countB m=g') (hs:Region.noSelect l.toArray=true) (hCl:cloB .any l.toArray listed=true) (hB:Qj .any l.toArray 0 m listed=true) (hW:Sj .any l.toArray LA 0 m=true)
  (hd:Tu n (sel m l)=true) (hn:a.tmps.size=n) (hl:Vd 0 m listed=listed') (hQ:∀ c a d v w,Q (.panic c) (a.put d v) w→Q (.panic c) a w) (hw:C w)
  (h:∃ aE,(∀ wf,C wf→wpQuiet P l.toArray (fun w'=>∃ s:In wf,w'=s.at_) (fun a'=>a'=aE) (sel m l) a)∧K8 P .any l.toArray Q C LA g f listed' aE w):K8 P .any l.toArray Q C LA g g' listed a w:=by
 subst hf;subst hl;obtain ⟨aE,h,H⟩:=h;exact envCT_pass_list hC hs hQ m l 0 listed a w A0h (q71 hCl) hB hW hd hn hw h H
end
end Go.Proofs.YtleclbldlladmaaGreat.Ar
namespace Go.Proofs.YtleclbldlladmaaGreat.Le_u
open Go.RowKit Go.Proofs.YtleclbldlladmaaGreat.Ar Go.Proofs.YtleclbldlladmaaGreat.Mx
structure Lx_u where
 ch:Int
 dr:Bool
 dw:Bool
 ln:Int
 f0:Int
 f1:Int
 f2:Int
 f3:Int
 f4:Int
 f5:Int
 f6:Int
 f7:Int
 f8:Int
 f9:Int
 f10:Int
def Lx_u.cells (y:Lx_u):Array Value:=#[.int .i64 y.ch,.bool y.dr,.bool y.dw,.int .i64 y.ln,.int .i64 y.f0,.int .i64 y.f1,.int .i64 y.f2,.int .i64 y.f3,.int .i64 y.f4,.int .i64 y.f5,.int .i64 y.f6,.int .i64 y.f7,.int .i64 y.f8,.int .i64 y.f9,.int .i64 y.f10]
def LxAt (w:World) (b:Nat) (T:TypeId) (pre post:Array Value) (y:Lx_u):Prop:=Pb w b T pre post y.cells
def atL (a:Int):Int:=Word.un a / 2
def mkL (a:Int):Bool:=decide (a % 2=1)
theorem Xt (a:Int) (w:World):Calls Tryz.prog 35 #[.int .i64 a] w fun e w'=>e = .returned (.int .i64 (atL a))∧w=w' :=
 (Word.Xt a w).mono (by rintro e w' ⟨rfl,rfl⟩;exact ⟨rfl,rfl⟩)
theorem lower1 (a:Int) (w:World):Calls Tryz.prog 58 #[.int .i64 a,.int .u64 1] w fun e w'=>e = .returned (.int .i64 (a % 2))∧w=w':=by go_enter Tryz.func58,Tryz.ntmps58;go_wp2;go_ret;exact Yo (Kj a 1 1 A0f A0f)
theorem Yh (a:Int) (w:World):Calls Tryz.prog 32 #[.int .i64 a] w fun e w'=>e = .returned (.bool (mkL a))∧w=w':=by go_enter Tryz.func32,Tryz.ntmps32;go_wp2_with fail;refine (lower1 _ _).mono ?_;rintro e _ ⟨rfl,rfl⟩;go_wp2;go_ret;exact ret_b (by unfold mkL;rw [Bool.eq_iff_iff];simp)
def Lx_u.n (y:Lx_u):Int:=atL y.f2
def Lx_u.who (y:Lx_u):Int:=if y.dr=true∧y.n≠0 then y.n else 1
def Lx_u.act (y:Lx_u) (s:St):St :=
 if y.ln=0 then s.swap (wrap64 (y.ch+3)) 0 y.ch else if y.ln=1 then s.load (wrap64 (y.ch+3)) else if y.ln=2 then s.load (wrap64 (y.f1+2))
 else if y.ln=3 then s.swap (wrap64 (y.f1+2)) y.f2 (wrap64 (y.f2+1)) else if y.ln=4 then s.load (wrap64 (y.f1+4)) else if y.ln=5 then s.swap (wrap64 (y.f1+4)) 0 y.who
 else if y.ln=6 then s.load (wrap64 (y.f1+4)) else if y.ln=7 then s.swap (wrap64 (y.n+3)) 0 y.f1 else if y.ln=8 then s.load (wrap64 (y.n+3))
 else if y.ln=9 then s.load (wrap64 (y.n+2)) else s.swap (wrap64 (y.n+2)) y.f9 (wrap64 (y.f9+1))
def Lx_u.told (y:Lx_u) (s:St):Int :=
 if y.ln=1 then qw s.l (wrap64 (y.ch+3)) else if y.ln=2 then qw s.l (wrap64 (y.f1+2)) else if y.ln=4∨y.ln=6 then qw s.l (wrap64 (y.f1+4))
 else if y.ln=8 then qw s.l (wrap64 (y.n+3)) else if y.ln=9 then qw s.l (wrap64 (y.n+2)) else 0
def Lx_u.drow (y:Lx_u):Lx_u:=if y.ln=5 then { y with dw:=true } else y
def Lx_u.put (y:Lx_u) (v:Int):Lx_u :=
 if y.ln=0 then { y with f0:=v } else if y.ln=1 then { y with f1:=v } else if y.ln=2 then { y with f2:=v } else if y.ln=3 then { y with f3:=v } else if y.ln=4 then { y with f4:=v }
 else if y.ln=5 then { y with f5:=v } else if y.ln=6 then { y with f6:=v } else if y.ln=7 then { y with f7:=v } else if y.ln=8 then { y with f8:=v } else if y.ln=9 then { y with f9:=v } else { y with f10:=v }
def Lx_u.mateL (y:Lx_u) (m:Int):Int:=if m=1∨y.n=0 then 11 else 7
def Lx_u.behL (y:Lx_u):Int :=
 if y.ln=0 then 1 else if y.ln=1 then 2 else if y.ln=2 then (if mkL y.f2=true then 4 else 3) else if y.ln=3 then 2 else if y.ln=4 then (if y.f4=0 then 5 else y.mateL y.f4) else if y.ln=5 then 6
 else if y.ln=6 then y.mateL y.f6 else if y.ln=7 then 8 else if y.ln=8 then (if y.f8=y.f1 then 9 else 11) else if y.ln=9 then (if mkL y.f9=true then 11 else 10) else 9
def Lx_u.step (y:Lx_u) (s:St):Lx_u:={ y.drow.put (y.told s) with ln:=(y.drow.put (y.told s)).behL }
section
variable {w:World} {b o p q:Nat} {T:TypeId} {pre post:Array Value} {y:Lx_u} {s:St}
theorem lx_cells (h:LxAt w b T pre post y) (ho:pre.size=o):w.cell? ⟨b,o,none⟩=some (.int .i64 y.ch)∧w.cell? ⟨b,o+1,none⟩=some (.bool y.dr)∧w.cell? ⟨b,o+2,none⟩=some (.bool y.dw)∧w.cell? ⟨b,o+3,none⟩=some (.int .i64 y.ln)∧w.cell? ⟨b,o+4,none⟩=some (.int .i64 y.f0)∧w.cell? ⟨b,o+4+1,none⟩=some (.int .i64 y.f1)∧w.cell? ⟨b,o+4+2,none⟩=some (.int .i64 y.f2)∧w.cell? ⟨b,o+4+3,none⟩=some (.int .i64 y.f3)∧w.cell? ⟨b,o+4+4,none⟩=some (.int .i64 y.f4)∧w.cell? ⟨b,o+4+5,none⟩=some (.int .i64 y.f5)∧w.cell? ⟨b,o+4+6,none⟩=some (.int .i64 y.f6)∧w.cell? ⟨b,o+4+7,none⟩=some (.int .i64 y.f7)∧w.cell? ⟨b,o+4+8,none⟩=some (.int .i64 y.f8)∧w.cell? ⟨b,o+4+9,none⟩=some (.int .i64 y.f9)∧w.cell? ⟨b,o+4+10,none⟩=some (.int .i64 y.f10) :=
 ⟨h.cell (i:=0) ho rfl,h.cell (i:=1) ho rfl,h.cell (i:=2) ho rfl,h.cell (i:=3) ho rfl,h.cell (i:=4) ho rfl,h.cell (i:=5) ho rfl,h.cell (i:=6) ho rfl,h.cell (i:=7) ho rfl,h.cell (i:=8) ho rfl,h.cell (i:=9) ho rfl,h.cell (i:=10) ho rfl,h.cell (i:=11) ho rfl,h.cell (i:=12) ho rfl,h.cell (i:=13) ho rfl,h.cell (i:=14) ho rfl⟩
theorem ldr_any (h:LxAt w b T pre post y) (ho:pre.size=o):Calls Tryz.prog 33 #[.pointer (some ⟨b,o,none⟩)] w fun e w'=>e = .returned (.int .i64 y.f1)∧w=w':=by obtain ⟨c0,c1,c2,c3,c4,c5,c6,c7,c8,c9,c10,c11,c12,c13,c14⟩:=lx_cells h ho;clear c0 c1 c2 c3 c4 c6 c7 c8 c9 c10 c11 c12 c13 c14 h;go_enter Tryz.func33,Tryz.ntmps33;exact A02
theorem nxt_any (h:LxAt w b T pre post y) (ho:pre.size=o):Calls Tryz.prog 34 #[.pointer (some ⟨b,o,none⟩)] w fun e w'=>e = .returned (.int .i64 y.n)∧w=w':=by obtain ⟨c0,c1,c2,c3,c4,c5,c6,c7,c8,c9,c10,c11,c12,c13,c14⟩:=lx_cells h ho;clear c0 c1 c2 c3 c4 c5 c7 c8 c9 c10 c11 c12 c13 c14 h;unfold Lx_u.n;go_enter Tryz.func34,Tryz.ntmps34;go_wp2_with fail;refine (Xt _ _).mono ?_;rintro e _ ⟨rfl,rfl⟩;exact A02
theorem swm_any (c x:Int) (hA:Ar w p q s):Calls Tryz.prog 55 #[.pointer (some ⟨p,0,none⟩),.int .i64 c,.int .i64 x] w fun e w'=>e = .returned (.tuple #[])∧Ar w' p q (s.swap (wrap64 (c+2)) x (wrap64 (x+1)))∧Fr [p,q] w w':=by go_enter Tryz.func55,Tryz.ntmps55;go_wp2_with fail;refine (Ar.yn _ p q s _ _ _ hA).mono ?_;rintro e w4 ⟨rfl,A4,F4⟩;go_wp2;go_end0;exact ⟨rfl,A4,F4⟩
theorem cho_any (h:LxAt w b T pre post y) (ho:pre.size=o):Calls Tryz.prog 56 #[.pointer (some ⟨b,o,none⟩)] w fun e w'=>e = .returned (.int .i64 y.who)∧w=w':=by
 obtain ⟨c0,c1,c2,c3,c4,c5,c6,c7,c8,c9,c10,c11,c12,c13,c14⟩:=lx_cells h ho;have HN:=q9 (nxt_any h ho);clear c0 c2 c3 c4 c5 c6 c7 c8 c9 c10 c11 c12 c13 c14 h;unfold Lx_u.who;generalize y.n=n at *;by_cases e1:y.dr=true
 ·rw [e1] at c1;by_cases e2:n=0
  ·subst e2;rw [qd A0h];clear e1;go_enter Tryz.func56,Tryz.ntmps56;exact Pz
  ·rw [qf ⟨e1,e2⟩];have g:(n != 0)=true:=by simpa using e2
   clear e1 e2;go_enter Tryz.func56,Tryz.ntmps56;go_wp2_with fail;refine HN.out.mono ?_;rintro e _ ⟨rfl,rfl⟩;exact Pz
 ·rw [qd (fun k=>e1 k.1)];rw [Bool.not_eq_true] at e1;rw [e1] at c1;clear e1;go_enter Tryz.func56,Tryz.ntmps56;exact A02
theorem bem_any (m:Int) (h:LxAt w b T pre post y) (ho:pre.size=o):Calls Tryz.prog 57 #[.pointer (some ⟨b,o,none⟩),.int .i64 m] w fun e w'=>e = .returned (.int .i64 (y.mateL m))∧w=w':=by
 have HN:=q9 (nxt_any h ho);clear h;unfold Lx_u.mateL;generalize y.n=n at *;by_cases e1:m=1
 ·rw [qf (.inl e1)];subst e1;go_enter Tryz.func57,Tryz.ntmps57;exact A02
 ·have g1:(m == 1)=false:=by simpa using e1
  by_cases e2:n=0
  ·rw [qf (.inr e2)];subst e2;clear e1;go_enter Tryz.func57,Tryz.ntmps57;exact Pz
  ·rw [qd (by rintro (k | k);exact e1 k;exact e2 k)];have g2:(n == 0)=false:=by simpa using e2
   clear e1 e2;go_enter Tryz.func57,Tryz.ntmps57;exact Pz
set_option maxRecDepth 100000 in
theorem beh0 (hl:y.ln=0) (h:LxAt w b T pre post y) (ho:pre.size=o):Calls Tryz.prog 31 #[.pointer (some ⟨b,o,none⟩)] w fun e w'=>e = .returned (.int .i64 y.behL)∧Fr [] w w':=by obtain ⟨c0,c1,c2,c3,c4,c5,c6,c7,c8,c9,c10,c11,c12,c13,c14⟩:=lx_cells h ho;have k3:=qb c3;have kf:=qb c4;rw [hl] at k3;have HC:=q9 (fun (wz:World) (Fz:Fr [] w wz)=>(qc (Pb.up h Fz) hl));have HO:=q9 ho;unfold Lx_u.behL;simp only [hl];clear h hl ho c0 c1 c2 c3 c4 c5 c6 c7 c8 c9 c10 c11 c12 c13 c14;simp only [Int.reduceEq,if_true,if_false];generalize y.f0=v at *;exact Pp
set_option maxRecDepth 100000 in
theorem beh1 (hl:y.ln=1) (h:LxAt w b T pre post y) (ho:pre.size=o):Calls Tryz.prog 31 #[.pointer (some ⟨b,o,none⟩)] w fun e w'=>e = .returned (.int .i64 y.behL)∧Fr [] w w':=by obtain ⟨c0,c1,c2,c3,c4,c5,c6,c7,c8,c9,c10,c11,c12,c13,c14⟩:=lx_cells h ho;have k3:=qb c3;have kf:=qb c5;rw [hl] at k3;have HC:=q9 (fun (wz:World) (Fz:Fr [] w wz)=>(qc (Pb.up h Fz) hl));have HO:=q9 ho;unfold Lx_u.behL;simp only [hl];clear h hl ho c0 c1 c2 c3 c4 c5 c6 c7 c8 c9 c10 c11 c12 c13 c14;simp only [Int.reduceEq,if_true,if_false];generalize y.f1=v at *;exact Pp
set_option maxRecDepth 100000 in
theorem beh3 (hl:y.ln=3) (h:LxAt w b T pre post y) (ho:pre.size=o):Calls Tryz.prog 31 #[.pointer (some ⟨b,o,none⟩)] w fun e w'=>e = .returned (.int .i64 y.behL)∧Fr [] w w':=by obtain ⟨c0,c1,c2,c3,c4,c5,c6,c7,c8,c9,c10,c11,c12,c13,c14⟩:=lx_cells h ho;have k3:=qb c3;have kf:=qb c7;rw [hl] at k3;have HC:=q9 (fun (wz:World) (Fz:Fr [] w wz)=>(qc (Pb.up h Fz) hl));have HO:=q9 ho;unfold Lx_u.behL;simp only [hl];clear h hl ho c0 c1 c2 c3 c4 c5 c6 c7 c8 c9 c10 c11 c12 c13 c14;simp only [Int.reduceEq,if_true,if_false];generalize y.f3=v at *;exact Pp
set_option maxRecDepth 100000 in
theorem beh5 (hl:y.ln=5) (h:LxAt w b T pre post y) (ho:pre.size=o):Calls Tryz.prog 31 #[.pointer (some ⟨b,o,none⟩)] w fun e w'=>e = .returned (.int .i64 y.behL)∧Fr [] w w':=by obtain ⟨c0,c1,c2,c3,c4,c5,c6,c7,c8,c9,c10,c11,c12,c13,c14⟩:=lx_cells h ho;have k3:=qb c3;have kf:=qb c9;rw [hl] at k3;have HC:=q9 (fun (wz:World) (Fz:Fr [] w wz)=>(qc (Pb.up h Fz) hl));have HO:=q9 ho;unfold Lx_u.behL;simp only [hl];clear h hl ho c0 c1 c2 c3 c4 c5 c6 c7 c8 c9 c10 c11 c12 c13 c14;simp only [Int.reduceEq,if_true,if_false];generalize y.f5=v at *;exact Pp
set_option maxRecDepth 100000 in
theorem beh7 (hl:y.ln=7) (h:LxAt w b T pre post y) (ho:pre.size=o):Calls Tryz.prog 31 #[.pointer (some ⟨b,o,none⟩)] w fun e w'=>e = .returned (.int .i64 y.behL)∧Fr [] w w':=by obtain ⟨c0,c1,c2,c3,c4,c5,c6,c7,c8,c9,c10,c11,c12,c13,c14⟩:=lx_cells h ho;have k3:=qb c3;have kf:=qb c11;rw [hl] at k3;have HC:=q9 (fun (wz:World) (Fz:Fr [] w wz)=>(qc (Pb.up h Fz) hl));have HO:=q9 ho;unfold Lx_u.behL;simp only [hl];clear h hl ho c0 c1 c2 c3 c4 c5 c6 c7 c8 c9 c10 c11 c12 c13 c14;simp only [Int.reduceEq,if_true,if_false];generalize y.f7=v at *;exact Pp
set_option maxRecDepth 100000 in
theorem beh10 (hl:y.ln=10) (h:LxAt w b T pre post y) (ho:pre.size=o):Calls Tryz.prog 31 #[.pointer (some ⟨b,o,none⟩)] w fun e w'=>e = .returned (.int .i64 y.behL)∧Fr [] w w':=by obtain ⟨c0,c1,c2,c3,c4,c5,c6,c7,c8,c9,c10,c11,c12,c13,c14⟩:=lx_cells h ho;have k3:=qb c3;have kf:=qb c14;rw [hl] at k3;have HC:=q9 (fun (wz:World) (Fz:Fr [] w wz)=>(qc (Pb.up h Fz) hl));have HO:=q9 ho;unfold Lx_u.behL;simp only [hl];clear h hl ho c0 c1 c2 c3 c4 c5 c6 c7 c8 c9 c10 c11 c12 c13 c14;simp only [Int.reduceEq,if_true,if_false];generalize y.f10=v at *;exact Pp
set_option maxRecDepth 100000 in
theorem beh2 (hl:y.ln=2) (h:LxAt w b T pre post y) (ho:pre.size=o):Calls Tryz.prog 31 #[.pointer (some ⟨b,o,none⟩)] w fun e w'=>e = .returned (.int .i64 y.behL)∧Fr [] w w':=by obtain ⟨c0,c1,c2,c3,c4,c5,c6,c7,c8,c9,c10,c11,c12,c13,c14⟩:=lx_cells h ho;have k3:=qb c3;have kf:=qb c6;rw [hl] at k3;have HC:=q9 (fun (wz:World) (Fz:Fr [] w wz)=>(qc (Pb.up h Fz) hl));have HO:=q9 ho;unfold Lx_u.behL;simp only [hl];clear h hl ho c0 c1 c2 c3 c4 c5 c6 c7 c8 c9 c10 c11 c12 c13 c14;simp only [Int.reduceEq,if_true,if_false];generalize y.f2=v at *;exact Pq
set_option maxRecDepth 100000 in
theorem beh9 (hl:y.ln=9) (h:LxAt w b T pre post y) (ho:pre.size=o):Calls Tryz.prog 31 #[.pointer (some ⟨b,o,none⟩)] w fun e w'=>e = .returned (.int .i64 y.behL)∧Fr [] w w':=by obtain ⟨c0,c1,c2,c3,c4,c5,c6,c7,c8,c9,c10,c11,c12,c13,c14⟩:=lx_cells h ho;have k3:=qb c3;have kf:=qb c13;rw [hl] at k3;have HC:=q9 (fun (wz:World) (Fz:Fr [] w wz)=>(qc (Pb.up h Fz) hl));have HO:=q9 ho;unfold Lx_u.behL;simp only [hl];clear h hl ho c0 c1 c2 c3 c4 c5 c6 c7 c8 c9 c10 c11 c12 c13 c14;simp only [Int.reduceEq,if_true,if_false];generalize y.f9=v at *;exact Pq
set_option maxRecDepth 100000 in
theorem beh4 (hl:y.ln=4) (h:LxAt w b T pre post y) (ho:pre.size=o):Calls Tryz.prog 31 #[.pointer (some ⟨b,o,none⟩)] w fun e w'=>e = .returned (.int .i64 y.behL)∧Fr [] w w':=by
 obtain ⟨c0,c1,c2,c3,c4,c5,c6,c7,c8,c9,c10,c11,c12,c13,c14⟩:=lx_cells h ho;have k3:=qb c3;have kf:=qb c8;rw [hl] at k3;have HM:=q9 (fun (wz:World) (Fz:Fr [] w wz) (m:Int)=>bem_any m (Pb.up h Fz) ho);have HC:=q9 (fun (wz:World) (Fz:Fr [] w wz)=>(qc (Pb.up h Fz) hl));have HO:=q9 ho;unfold Lx_u.behL;simp only [hl];clear h hl ho c0 c1 c2 c3 c4 c5 c6 c7 c8 c9 c10 c11 c12 c13 c14;simp only [Int.reduceEq,if_true,if_false];generalize y.f4=v at *;have HM:=q9 (HM.out · · v);generalize y.mateL v=vm at *;by_cases g:v=0
 ·rw [qf g];subst g;exact Pp
 ·rw [qd g];have g1:(v != 0)=true:=by simpa using g
  clear g;go_enter Tryz.func31,Tryz.ntmps31;go_wp2_with fail;refine R5 A0g A0g ?_;repeat (go_big_quiet_step (fail))
  refine wpQuiet_nil ?_;intro w2 F2;clear k3 kf;obtain ⟨h2,hl2⟩:=HC.out w2 F2;obtain ⟨c0,c1,c2,c3,c4,c5,c6,c7,c8,c9,c10,c11,c12,c13,c14⟩:=lx_cells h2 HO.out;rw [hl2] at c3;clear h2 hl2 c0 c1 c2 c4 c5 c6 c7 c8 c9 c10 c11 c12 c13 c14;go_wp2_with fail;refine (HM.out _ F2).mono ?_;rintro e _ ⟨rfl,rfl⟩;exact Py
set_option maxRecDepth 100000 in
theorem beh6 (hl:y.ln=6) (h:LxAt w b T pre post y) (ho:pre.size=o):Calls Tryz.prog 31 #[.pointer (some ⟨b,o,none⟩)] w fun e w'=>e = .returned (.int .i64 y.behL)∧Fr [] w w':=by
 obtain ⟨c0,c1,c2,c3,c4,c5,c6,c7,c8,c9,c10,c11,c12,c13,c14⟩:=lx_cells h ho;have k3:=qb c3;have kf:=qb c10;rw [hl] at k3;have HM:=q9 (fun (wz:World) (Fz:Fr [] w wz) (m:Int)=>bem_any m (Pb.up h Fz) ho);have HC:=q9 (fun (wz:World) (Fz:Fr [] w wz)=>(qc (Pb.up h Fz) hl));have HO:=q9 ho;unfold Lx_u.behL;simp only [hl];clear h hl ho c0 c1 c2 c3 c4 c5 c6 c7 c8 c9 c10 c11 c12 c13 c14;simp only [Int.reduceEq,if_true,if_false];generalize y.f6=v at *;go_enter Tryz.func31,Tryz.ntmps31;go_wp2_with fail;refine R5 A0g A0g ?_;repeat (go_big_quiet_step (fail))
 refine wpQuiet_nil ?_;intro w2 F2;clear k3 kf;obtain ⟨h2,hl2⟩:=HC.out w2 F2;obtain ⟨c0,c1,c2,c3,c4,c5,c6,c7,c8,c9,c10,c11,c12,c13,c14⟩:=lx_cells h2 HO.out;rw [hl2] at c3;clear h2 hl2 c0 c1 c2 c4 c5 c6 c7 c8 c9 c10 c11 c12 c13 c14;go_wp2_with fail;refine (HM.out _ F2 _).mono ?_;rintro e _ ⟨rfl,rfl⟩;exact Py
set_option maxRecDepth 100000 in
theorem beh8 (hl:y.ln=8) (h:LxAt w b T pre post y) (ho:pre.size=o):Calls Tryz.prog 31 #[.pointer (some ⟨b,o,none⟩)] w fun e w'=>e = .returned (.int .i64 y.behL)∧Fr [] w w':=by
 obtain ⟨c0,c1,c2,c3,c4,c5,c6,c7,c8,c9,c10,c11,c12,c13,c14⟩:=lx_cells h ho;have k3:=qb c3;have kf:=qb c12;rw [hl] at k3;have HL:=q9 (fun (wz:World) (Fz:Fr [] w wz)=>ldr_any (Pb.up h Fz) ho);have HC:=q9 (fun (wz:World) (Fz:Fr [] w wz)=>(qc (Pb.up h Fz) hl));have HO:=q9 ho;unfold Lx_u.behL;simp only [hl];clear h hl ho c0 c1 c2 c3 c4 c5 c6 c7 c8 c9 c10 c11 c12 c13 c14;simp only [Int.reduceEq,if_true,if_false];generalize y.f8=v at *;generalize y.f1=v1 at *;by_cases g:v=v1
 ·rw [qf g];have g1:(v != v1)=false:=by simpa using g
  exact Pv
 ·rw [qd g];have g1:(v != v1)=true:=by simpa using g
  exact Pv
theorem beh_any (hl:0≤y.ln∧y.ln≤10) (h:LxAt w b T pre post y) (ho:pre.size=o):Calls Tryz.prog 31 #[.pointer (some ⟨b,o,none⟩)] w fun e w'=>e = .returned (.int .i64 y.behL)∧Fr [] w w':=by
 rcases (by omega:y.ln=0∨y.ln=1∨y.ln=2∨y.ln=3∨y.ln=4∨y.ln=5∨y.ln=6∨y.ln=7∨y.ln=8∨y.ln=9∨y.ln=10) with e | e | e | e | e | e | e | e | e | e | e
 ·exact beh0 e h ho
 ·exact beh1 e h ho
 ·exact beh2 e h ho
 ·exact beh3 e h ho
 ·exact beh4 e h ho
 ·exact beh5 e h ho
 ·exact beh6 e h ho
 ·exact beh7 e h ho
 ·exact beh8 e h ho
 ·exact beh9 e h ho
 ·exact beh10 e h ho
def PostA (w:World) (b p q:Nat) (T:TypeId) (pre post:Array Value) (y:Lx_u) (s:St) (e:Ending) (w':World):Prop:=e = .returned (.int .i64 (y.told s))∧LxAt w' b T pre post y.drow∧Ar w' p q (y.act s)∧Fr [b,p,q] w w'
set_option maxRecDepth 100000 in
theorem acc0 (hl:y.ln=0) (h:LxAt w b T pre post y) (ho:pre.size=o) (hA:Ar w p q s) (hne:b≠p∧b≠q):Calls Tryz.prog 30 #[.pointer (some ⟨b,o,none⟩),.pointer (some ⟨p,0,none⟩)] w (PostA w b p q T pre post y s):=by
 unfold PostA;obtain ⟨c0,c1,c2,c3,c4,c5,c6,c7,c8,c9,c10,c11,c12,c13,c14⟩:=lx_cells h ho;have HH:=q9 h;have HNE:=q9 hne;have HL:=q9 (fun (wz:World) (Fz:Fr [] w wz)=>ldr_any (Pb.up h Fz) ho);have HN:=q9 (fun (wz:World) (Fz:Fr [] w wz)=>nxt_any (Pb.up h Fz) ho);rw [hl] at c3;generalize hyd:y.drow=yd_u;have HD:=q9 hyd;clear hyd;unfold Lx_u.told Lx_u.act;simp only [hl,Int.reduceEq,if_true,if_false,or_true,true_or,or_self];have HLN:=q9 hl;clear h hl ho hne;generalize hn:y.n=n at *;have HY:=q9 hn;clear hn;go_enter Tryz.func30,Tryz.ntmps30;go_wp2_with fail;refine (HL.out _ (Fr.refl _ _)).mono ?_;rintro e _ ⟨rfl,rfl⟩;go_wp2_with fail;refine (HN.out _ (Fr.refl _ _)).mono ?_;rintro e _ ⟨rfl,rfl⟩;go_wp2_with fail;have hb:=HH.out.lt;refine qp A0g ?_;refine za [p,q] w #[true,true,true,true,true,true,true,true,true,true,false] 10 1 rfl ?_;refine envT_pass [true,true,true,true,true,true,true,true,true,true,false] 0 (n:=100) (listed':=#[true,true,true,true,true,true,true,true,true,true,false]) rfl A0g A0g A0g A0g A0g rfl A0g (fun _ _ d _ _ h=>by cases d <;> exact h) ((Fr.refl _ w).drew) ?_;apply qg;refine ⟨fun wf Ff=>?_,?_⟩
 ·have k0:=qb (Ff.cell c0 A0p);exact A08
 refine qy (k:=10) rfl A0g (fun w5 F5=>?_);have D5:=(Fr.refl [] w).drew.trans F5;have A5:=hA.kept D5 A0h A0h;clear c0 c1 c2 c3 c4 c5 c6 c7 c8 c9 c10 c11 c12 c13 c14;go_wp2_with fail;refine (Ar.yn _ p q s _ _ _ A5).mono ?_;rintro e w4 ⟨rfl,A4,F4⟩;replace F4:=(D5.mono (T:=[p,q]) A0h).trans F4;exact Pu
set_option maxRecDepth 100000 in
theorem acc1 (hl:y.ln=1) (h:LxAt w b T pre post y) (ho:pre.size=o) (hA:Ar w p q s) (hne:b≠p∧b≠q):Calls Tryz.prog 30 #[.pointer (some ⟨b,o,none⟩),.pointer (some ⟨p,0,none⟩)] w (PostA w b p q T pre post y s):=Po
set_option maxRecDepth 100000 in
theorem acc2 (hl:y.ln=2) (h:LxAt w b T pre post y) (ho:pre.size=o) (hA:Ar w p q s) (hne:b≠p∧b≠q):Calls Tryz.prog 30 #[.pointer (some ⟨b,o,none⟩),.pointer (some ⟨p,0,none⟩)] w (PostA w b p q T pre post y s):=Po
set_option maxRecDepth 100000 in
theorem acc4 (hl:y.ln=4) (h:LxAt w b T pre post y) (ho:pre.size=o) (hA:Ar w p q s) (hne:b≠p∧b≠q):Calls Tryz.prog 30 #[.pointer (some ⟨b,o,none⟩),.pointer (some ⟨p,0,none⟩)] w (PostA w b p q T pre post y s):=Po
set_option maxRecDepth 100000 in
theorem acc6 (hl:y.ln=6) (h:LxAt w b T pre post y) (ho:pre.size=o) (hA:Ar w p q s) (hne:b≠p∧b≠q):Calls Tryz.prog 30 #[.pointer (some ⟨b,o,none⟩),.pointer (some ⟨p,0,none⟩)] w (PostA w b p q T pre post y s):=Po
set_option maxRecDepth 100000 in
theorem acc8 (hl:y.ln=8) (h:LxAt w b T pre post y) (ho:pre.size=o) (hA:Ar w p q s) (hne:b≠p∧b≠q):Calls Tryz.prog 30 #[.pointer (some ⟨b,o,none⟩),.pointer (some ⟨p,0,none⟩)] w (PostA w b p q T pre post y s):=Po
set_option maxRecDepth 100000 in
theorem acc9 (hl:y.ln=9) (h:LxAt w b T pre post y) (ho:pre.size=o) (hA:Ar w p q s) (hne:b≠p∧b≠q):Calls Tryz.prog 30 #[.pointer (some ⟨b,o,none⟩),.pointer (some ⟨p,0,none⟩)] w (PostA w b p q T pre post y s):=Po
set_option maxRecDepth 100000 in
theorem acc3 (hl:y.ln=3) (h:LxAt w b T pre post y) (ho:pre.size=o) (hA:Ar w p q s) (hne:b≠p∧b≠q):Calls Tryz.prog 30 #[.pointer (some ⟨b,o,none⟩),.pointer (some ⟨p,0,none⟩)] w (PostA w b p q T pre post y s):=Ps
set_option maxRecDepth 100000 in
theorem acc10 (hl:y.ln=10) (h:LxAt w b T pre post y) (ho:pre.size=o) (hA:Ar w p q s) (hne:b≠p∧b≠q):Calls Tryz.prog 30 #[.pointer (some ⟨b,o,none⟩),.pointer (some ⟨p,0,none⟩)] w (PostA w b p q T pre post y s):=Ps
set_option maxRecDepth 100000 in
theorem acc7 (hl:y.ln=7) (h:LxAt w b T pre post y) (ho:pre.size=o) (hA:Ar w p q s) (hne:b≠p∧b≠q):Calls Tryz.prog 30 #[.pointer (some ⟨b,o,none⟩),.pointer (some ⟨p,0,none⟩)] w (PostA w b p q T pre post y s):=by unfold PostA;obtain ⟨c0,c1,c2,c3,c4,c5,c6,c7,c8,c9,c10,c11,c12,c13,c14⟩:=lx_cells h ho;have HH:=q9 h;have HNE:=q9 hne;have HL:=q9 (fun (wz:World) (Fz:Fr [] w wz)=>ldr_any (Pb.up h Fz) ho);have HN:=q9 (fun (wz:World) (Fz:Fr [] w wz)=>nxt_any (Pb.up h Fz) ho);rw [hl] at c3;generalize hyd:y.drow=yd_u;have HD:=q9 hyd;clear hyd;unfold Lx_u.told Lx_u.act;simp only [hl,Int.reduceEq,if_true,if_false,or_true,true_or,or_self];have HLN:=q9 hl;clear h hl ho hne;generalize hn:y.n=n at *;have HY:=q9 hn;clear hn;go_enter Tryz.func30,Tryz.ntmps30;go_wp2_with fail;refine (HL.out _ (Fr.refl _ _)).mono ?_;rintro e _ ⟨rfl,rfl⟩;go_wp2_with fail;refine (HN.out _ (Fr.refl _ _)).mono ?_;rintro e _ ⟨rfl,rfl⟩;go_wp2_with fail;refine (Ar.yn _ p q s _ _ _ hA).mono ?_;rintro e w4 ⟨rfl,A4,F4⟩;clear c0 c1 c2 c3 c4 c5 c6 c7 c8 c9 c10 c11 c12 c13 c14;exact Pu
set_option maxRecDepth 100000 in
theorem acc5 (hl:y.ln=5) (h:LxAt w b T pre post y) (ho:pre.size=o) (hA:Ar w p q s) (hne:b≠p∧b≠q):Calls Tryz.prog 30 #[.pointer (some ⟨b,o,none⟩),.pointer (some ⟨p,0,none⟩)] w (PostA w b p q T pre post y s):=by
 unfold PostA;obtain ⟨c0,c1,c2,c3,c4,c5,c6,c7,c8,c9,c10,c11,c12,c13,c14⟩:=lx_cells h ho;have HH:=q9 h;have HNE:=q9 hne;have HL:=q9 (fun (wz:World) (Fz:Fr [] w wz)=>ldr_any (Pb.up h Fz) ho);have HN:=q9 (fun (wz:World) (Fz:Fr [] w wz)=>nxt_any (Pb.up h Fz) ho);have HC:=q9 (fun (wz:World) (Fz:Fr [] w wz)=>cho_any (Pb.up h Fz) ho);have HO:=q9 ho;rw [hl] at c3;generalize hyd:y.drow=yd_u;have HD:=q9 hyd;clear hyd;unfold Lx_u.told Lx_u.act;simp only [hl,Int.reduceEq,if_true,if_false,or_true,true_or,or_self];have HLN:=q9 hl;clear h hl ho hne;generalize hn:y.n=n at *;have HY:=q9 hn;clear hn;go_enter Tryz.func30,Tryz.ntmps30;go_wp2_with fail;refine (HL.out _ (Fr.refl _ _)).mono ?_;rintro e _ ⟨rfl,rfl⟩;go_wp2_with fail;refine (HN.out _ (Fr.refl _ _)).mono ?_;rintro e _ ⟨rfl,rfl⟩;go_wp2_with fail;refine (HC.out _ (Fr.refl _ _)).mono ?_;rintro e _ ⟨rfl,rfl⟩;go_wp2_with fail;refine (Ar.yn _ p q s _ _ _ hA).mono ?_;rintro e w4 ⟨rfl,A4,F4⟩;have h4:LxAt w4 b T pre post y:=Pb.kept HH.out F4 A0p;clear c0 c1 c2 c3 c4 c5 c6 c7 c8 c9 c10 c11 c12 c13 c14;obtain ⟨c0,c1,c2,c3,c4,c5,c6,c7,c8,c9,c10,c11,c12,c13,c14⟩:=lx_cells h4 HO.out;have z4:=h4.frozen;have HP:=q9 h4;clear h4 c0 c1 c3 c4 c5 c6 c7 c8 c9 c10 c11 c12 c13 c14;go_wp2;go_ret;refine ⟨rfl,?_,?_,?_⟩
 ·rw [← HD.out];unfold Lx_u.drow;rw [qf HLN.out];exact Pb.set HP.out HO.out (i:=2) (by show 2<15;omega) (.bool true)
 ·exact A4.kept (Fr.setCell (S:=[b]) (b:=b) _ A0h) A0m A0n
 ·exact (F4.mono A0h).setCell' (b:=b) _ A0h
theorem acc_any (hl:0≤y.ln∧y.ln≤10) (h:LxAt w b T pre post y) (ho:pre.size=o) (hA:Ar w p q s) (hne:b≠p∧b≠q):Calls Tryz.prog 30 #[.pointer (some ⟨b,o,none⟩),.pointer (some ⟨p,0,none⟩)] w (PostA w b p q T pre post y s):=by
 rcases (by omega:y.ln=0∨y.ln=1∨y.ln=2∨y.ln=3∨y.ln=4∨y.ln=5∨y.ln=6∨y.ln=7∨y.ln=8∨y.ln=9∨y.ln=10) with e | e | e | e | e | e | e | e | e | e | e
 ·exact acc0 e h ho hA hne
 ·exact acc1 e h ho hA hne
 ·exact acc2 e h ho hA hne
 ·exact acc3 e h ho hA hne
 ·exact acc4 e h ho hA hne
 ·exact acc5 e h ho hA hne
 ·exact acc6 e h ho hA hne
 ·exact acc7 e h ho hA hne
 ·exact acc8 e h ho hA hne
 ·exact acc9 e h ho hA hne
 ·exact acc10 e h ho hA hne
end
end Go.Proofs.YtleclbldlladmaaGreat.Le_u
namespace Go.Proofs.YtleclbldlladmaaGreat.Le_u
open Go.RowKit Go.Proofs.YtleclbldlladmaaGreat.Ar Go.Proofs.YtleclbldlladmaaGreat.Mx
section
variable {w:World} {b o p q:Nat} {T:TypeId} {pre post:Array Value} {y:Lx_u} {s:St}
def PostS (w:World) (b p q:Nat) (T:TypeId) (pre post:Array Value) (y:Lx_u) (s:St) (e:Ending) (w':World):Prop:=e = .returned (.bool (decide (y.ln=11)))∧LxAt w' b T pre post y∧Ar w' p q s∧Fr [b,p,q] w w'
def Kp3 (w:World) (b o p q:Nat) (k:Int) (w':World):Prop:=Fr [b,p,q] w w'∧w'.cell? ⟨b,o+3,none⟩=some (.int .i64 k)
theorem Kp3.up (w:World) (b o p q:Nat) (k:Int):∀ w1 w2,Kp3 w b o p q k w1→Fr [] w1 w2→Kp3 w b o p q k w2:=fun w1 w2 h f=>⟨h.1.then f,f.cell h.2 A0h⟩
def Lx_u.fin (yd_u:Lx_u) (v:Int):Lx_u:={ yd_u.put v with ln:=(yd_u.put v).behL }
theorem put_cells {yd_u:Lx_u} {v:Int} {k:Nat} (hk:k≤10) (hd:yd_u.ln=k):(yd_u.put v).cells=yd_u.cells.setIfInBounds (4+k) (.int .i64 v)∧(yd_u.put v).ln=k:=by obtain ⟨a0,a1,a2,ln,f0,f1,f2,f3,f4,f5,f6,f7,f8,f9,f10⟩:=yd_u;simp only at hd;subst hd;rcases (by omega:k=0∨k=1∨k=2∨k=3∨k=4∨k=5∨k=6∨k=7∨k=8∨k=9∨k=10) with rfl | rfl | rfl | rfl | rfl | rfl | rfl | rfl | rfl | rfl | rfl <;> exact ⟨rfl,rfl⟩
set_option maxHeartbeats 1600000 in
set_option maxRecDepth 100000 in
theorem step_k {yd_u:Lx_u} {v:Int} {s':St} {k:Nat} (hk:k≤10) (hl:y.ln=k) (hd:yd_u.ln=k) (HS:Hid (∀ wz,Fr [] w wz→Calls Tryz.prog 30 #[.pointer (some ⟨b,o,none⟩),.pointer (some ⟨p,0,none⟩)] wz fun e w'=>e = .returned (.int .i64 v)∧LxAt w' b T pre post yd_u∧Ar w' p q s'∧Fr [b,p,q] wz w')) (h:LxAt w b T pre post y) (ho:pre.size=o) (hne:b≠p∧b≠q):Calls Tryz.prog 11 #[.pointer (some ⟨b,o,none⟩),.pointer (some ⟨p,0,none⟩)] w (PostS w b p q T pre post (yd_u.fin v) s'):=by
 obtain ⟨-,-,-,c3,-⟩:=lx_cells h ho;rw [hl] at c3;have q0:((k:Int) != 11)=true:=by simp;omega
 have HL:=q9 (qc hd ho);have HNE:=q9 hne;obtain ⟨hpc,hpl⟩:=put_cells (v:=v) hk hd;show Calls Tryz.prog 11 _ w (PostS w b p q T pre post { yd_u.put v with ln:=(yd_u.put v).behL } s');generalize yd_u.put v=y6 at *;have hbl:0≤y6.ln∧y6.ln≤10:=by omega
 have HBL:=q9 hbl;have HPC:=q9 hpc;clear hpc hpl hl hd ho hne h hbl;go_enter Tryz.func11,Tryz.ntmps11;go_wp2_with fail;refine qp A0g ?_;refine wm 0 rfl A0g A0g A0g rfl (fun _ _ d _ _ h=>by cases d <;> exact h) ?_;go_frame;simp only [Act.eval,Array.getD_eq_getD_getElem?,List.getElem?_toArray,List.getElem?_cons_zero,Option.getD_some];refine q1s (Kp3 w b o p q k) #[true,true,true,true,true,true,true,true,true,true,true,false] 10 1 rfl ?_;refine envCT_pass (Kp3.up w b o p q k) [false,true,true,true,true,true,true,false,true,true,false,false] 2 (n:=31) (listed':=#[true,true,true,true,true,true,true,false,true,true,false,false]) rfl A0g A0g A0g A0g A0g rfl A0g (fun _ _ d _ _ h=>by cases d <;> exact h) ⟨(Fr.refl _ w).drew,((Fr.refl [] w).drew).cell c3 A0h⟩ ?_;apply qg;refine ⟨fun wf Ff=>?_,?_⟩
 ·have k3:=qb Ff.2;exact A08
 refine jl 7 A0g rfl rfl (fun w3 F3=>?_);have D3:=(Fr.refl [] w).drew.trans F3;clear F3 c3;go_wp2_with fail;refine (HS.out _ D3).mono ?_;rintro e w4 ⟨rfl,h4,A4,F4⟩;replace F4:Fr [b,p,q] w w4:=(D3.mono A0h).trans F4;clear D3;have HP:=q9 (qc h4 (qc A4 F4));have cc:w4.cell? ⟨b,o+3,none⟩=some (.int .i64 (k:Int)):=by have:=(lx_cells h4 HL.out.2).2.2.2.1;rw [HL.out.1] at this;exact this
 have HC:=q9 cc;clear h4 A4 F4 cc;go_wp2_with fail;refine ql ⟨⟨HP.out.2.2,HC.out⟩,?_⟩;refine jl 10 A0g rfl rfl (fun w4' F4'=>?_);have HP':=q9 (qc (Pb.up HP.out.1 F4') (qc (HP.out.2.1.kept F4' A0h A0h) (HP.out.2.2.then F4')));have HC':=q9 (F4'.cell HC.out A0h);clear F4' HP HC;go_wp2_with fail;refine ql ⟨⟨HP'.out.2.2,HC'.out⟩,?_⟩;refine Rm (k:=11) rfl A0g (fun w5 F5=>?_);have h5:LxAt w5 b T pre post yd_u:=Pb.up HP'.out.1 F5;have A5:=HP'.out.2.1.kept F5 A0h A0h;have D5:=HP'.out.2.2.then F5;clear F5 HP' HC';have HP:=q9 (qc h5 (qc A5 D5));have ck:=h5.cell (i:=4+k) HL.out.2 (v:=(yd_u.cells)[4+k]'(by show 4+k<15;omega)) (Array.getElem?_eq_getElem _);rw [← Nat.add_assoc] at ck;generalize (yd_u.cells)[4+k]'_=old at *;have z5:=h5.frozen;clear h5 A5 D5;go_wp2_with fail;have h6:LxAt (w5.setCell ⟨b,o+4+k,none⟩ (.int .i64 v)) b T pre post y6:=by unfold LxAt;rw [HPC.out,Nat.add_assoc];exact Pb.set HP.out.1 HL.out.2 (i:=4+k) (by show 4+k<15;omega) (.int .i64 v)
 have A6:Ar (w5.setCell ⟨b,o+4+k,none⟩ (.int .i64 v)) p q s':=HP.out.2.1.kept (Fr.setCell (S:=[b]) (b:=b) _ A0h) A0m A0n;have D6:=HP.out.2.2.setCell' (b:=b) (i:=o+4+k) (.int .i64 v) A0h;generalize (w5.setCell ⟨b,o+4+k,none⟩ (.int .i64 v))=w6 at *;clear ck z5;refine (beh_any HBL.out h6 HL.out.2).mono ?_;rintro e w7 ⟨rfl,F7⟩;have h7:LxAt w7 b T pre post y6:=Pb.up h6 F7;have HR:=q9 (qc h7 (qc (A6.kept F7 A0h A0h) (D6.then F7)));have z7_u:=h7.frozen;obtain ⟨-,-,-,c3,-⟩:=lx_cells h7 HL.out.2;clear h7 h6 A6 D6 F7;generalize y6.behL=lb at *;go_wp2_with fail;go_ret;obtain ⟨h7,A7,D7⟩:=HR.out;refine ⟨?_,?_,?_,?_⟩
 ·first | rfl | (show Ending.returned (.bool (lb == 11)) = .returned (.bool (decide (lb=11)));congr)
 ·exact Pb.set h7 HL.out.2 (i:=3) (by show 3<15;omega) (.int .i64 lb)
 ·exact A7.kept (Fr.setCell (S:=[b]) (b:=b) _ A0h) A0m A0n
 ·exact D7.setCell' (b:=b) _ A0h
theorem step_on (hl:0≤y.ln∧y.ln≤10) (h:LxAt w b T pre post y) (ho:pre.size=o) (hA:Ar w p q s) (hne:b≠p∧b≠q):Calls Tryz.prog 11 #[.pointer (some ⟨b,o,none⟩),.pointer (some ⟨p,0,none⟩)] w (PostS w b p q T pre post (y.step s) (y.act s)):=by
 have HS:=q9 (show ∀ wz,Fr [] w wz→Calls Tryz.prog 30 #[.pointer (some ⟨b,o,none⟩),.pointer (some ⟨p,0,none⟩)] wz (fun e w'=>e = .returned (.int .i64 (y.told s))∧LxAt w' b T pre post y.drow∧Ar w' p q (y.act s)∧Fr [b,p,q] wz w') from fun wz Fz=>acc_any hl (Pb.up h Fz) ho (hA.kept Fz A0h A0h) hne);have hd:y.drow.ln=y.ln:=by unfold Lx_u.drow;split <;> rfl
 show Calls Tryz.prog 11 _ w (PostS w b p q T pre post (y.drow.fin (y.told s)) (y.act s));obtain ⟨k,hk⟩:∃ k:Nat,y.ln=k:=⟨y.ln.toNat,by omega⟩;exact step_k A0e hk (hd.trans hk) HS h ho hne
def Lx_u.go (y:Lx_u) (s:St):Lx_u×St:=if y.ln=11 then (y,s) else (y.step s,y.act s)
theorem step_any (hl:0≤y.ln∧y.ln≤11) (h:LxAt w b T pre post y) (ho:pre.size=o) (hA:Ar w p q s) (hne:b≠p∧b≠q):Calls Tryz.prog 11 #[.pointer (some ⟨b,o,none⟩),.pointer (some ⟨p,0,none⟩)] w (PostS w b p q T pre post (y.go s).1 (y.go s).2):=by
 by_cases e8:y.ln=11
 ·have eg:y.go s=(y,s):=by unfold Lx_u.go;rw [qf e8]
  rw [eg];obtain ⟨c0,c1,c2,c3,c4,c5,c6,c7,c8,c9,c10,c11,c12,c13,c14⟩:=lx_cells h ho;rw [e8] at c3;have HH:=q9 (qc h hA);have HE:=q9 e8;have q0:((11:Int) != 11)=false:=by decide
  unfold PostS;clear h hA e8 eg c0 c1 c2 hl ho c4 c5 c6 c7 c8 c9 c10 c11 c12 c13 c14;go_enter Tryz.func11,Tryz.ntmps11;go_wp2;go_ret;exact ⟨by rw [HE.out];rfl,HH.out.1,HH.out.2,Fr.refl _ _⟩
 ·have eg:y.go s=(y.step s,y.act s):=by unfold Lx_u.go;rw [qd e8]
  rw [eg];exact step_on A0e h ho hA hne
end
end Go.Proofs.YtleclbldlladmaaGreat.Le_u
namespace Go.Proofs.YtleclbldlladmaaGreat.Le_u
open Go.RowKit Go.Proofs.YtleclbldlladmaaGreat.Ar Go.Proofs.YtleclbldlladmaaGreat.Mx
def Lx_u.new (ch:Int) (dr:Bool):Lx_u:=⟨ch,dr,false,0,0,0,0,0,0,0,0,0,0,0,0⟩
theorem qbl (c:Cf) (ch:Int) (dr:Bool) (w:World):Calls Tryz.prog 10 #[c.val,.int .i64 ch,.bool dr] w fun e w'=>∃ b,e = .returned (.pointer (some ⟨b,0,none⟩))∧w.heap.size≤b∧LxAt w' b 70 #[] #[] (Lx_u.new ch dr)∧Fr [] w w':=by unfold Cf.val;obtain ⟨c0,c1,c2,c3⟩:=Pl.yu (Go.heap_alloc_new w (.cells #[.int .i64 c.t,.int .i64 c.c,.int .i64 c.wd,.int .i64 c.v] 23));have F0:=(Fr.refl [] w).alloc (.cells #[.int .i64 c.t,.int .i64 c.c,.int .i64 c.wd,.int .i64 c.v] 23);go_enter Tryz.func10,Tryz.ntmps10;go_wp2_with fail;go_ret;exact ⟨_,rfl,by omega,Ob.newAt (Yr _ _) _ _,F0.alloc _⟩
def Lx_u.rl (y:Lx_u):Int:=if y.ln=11 then y.f1 else 0
def Lx_u.rm (y:Lx_u):Int:=if y.ln=11 then (if mkL y.f9=true then y.n else 0) else 0
def Lx_u.ra (y:Lx_u):Int:=if y.ln=11 then (if mkL y.f9=true then atL y.f9 else y.n) else 0
section
variable {w:World} {b o p q:Nat} {T:TypeId} {pre post:Array Value} {y:Lx_u} {s:St}
theorem drw_any (h:LxAt w b T pre post y) (ho:pre.size=o):Calls Tryz.prog 15 #[.pointer (some ⟨b,o,none⟩)] w fun e w'=>e = .returned (.bool y.dw)∧w=w':=by obtain ⟨-,-,c2,-⟩:=lx_cells h ho;clear h;go_enter Tryz.func15,Tryz.ntmps15;exact A02
def PostC (w:World) (a b c:Int) (e:Ending) (w':World):Prop:=e = .returned (.tuple #[.int .i64 a,.int .i64 b,.int .i64 c])∧w=w'
theorem chk_any (h:LxAt w b T pre post y) (ho:pre.size=o):Calls Tryz.prog 12 #[.pointer (some ⟨b,o,none⟩)] w (PostC w y.rl y.rm y.ra):=by
 have HL:=q9 (ldr_any h ho);have HN:=q9 (nxt_any h ho);obtain ⟨-,-,-,c3,-,-,-,-,-,-,-,-,-,c13,-⟩:=lx_cells h ho;clear h;unfold Lx_u.rl Lx_u.rm Lx_u.ra;generalize y.n=n at *;generalize y.f1=l at *;generalize y.f9=v at *;generalize y.ln=ln at *;by_cases e:ln=11
 ·subst e;have q0:((11:Int) != 11)=false:=by decide
  rw [qf rfl,qf rfl,qf rfl];cases g:mkL v
  ·rw [qd A0f,qd A0f];go_enter Tryz.func12,Tryz.ntmps12;go_wp2_with fail;refine (Yh _ _).mono ?_;rintro e _ ⟨rfl,rfl⟩;rw [g];go_wp2_with fail;refine HL.out.mono ?_;rintro e _ ⟨rfl,rfl⟩;go_wp2_with fail;refine HN.out.mono ?_;rintro e _ ⟨rfl,rfl⟩;go_wp2;exact bodyPost_ret (v:=.tuple #[.int .i64 l,.int .i64 0,.int .i64 n]) A0k rfl ⟨rfl,rfl⟩
  ·rw [qf rfl,qf rfl];go_enter Tryz.func12,Tryz.ntmps12;go_wp2_with fail;refine (Yh _ _).mono ?_;rintro e _ ⟨rfl,rfl⟩;rw [g];go_wp2_with fail;refine HL.out.mono ?_;rintro e _ ⟨rfl,rfl⟩;go_wp2_with fail;refine HN.out.mono ?_;rintro e _ ⟨rfl,rfl⟩;go_wp2_with fail;refine (Xt _ _).mono ?_;rintro e _ ⟨rfl,rfl⟩;go_wp2;exact bodyPost_ret (v:=.tuple #[.int .i64 l,.int .i64 n,.int .i64 (atL v)]) A0k rfl ⟨rfl,rfl⟩
 ·have q0:(ln != 11)=true:=by simpa using e
  rw [qd e,qd e,qd e];clear e;go_enter Tryz.func12,Tryz.ntmps12;go_wp2;exact bodyPost_ret (v:=.tuple #[.int .i64 0,.int .i64 0,.int .i64 0]) A0k rfl ⟨rfl,rfl⟩
end
def LeIs (w:World) (b:Nat) (y:Lx_u):Prop:=LxAt w b 70 #[] #[] y
theorem LeIs.up {w w':World} {b:Nat} {y:Lx_u} (h:LeIs w b y) (f:Fr [] w w'):LeIs w' b y:=Pb.up h f
theorem LeIs.kept {S:List Nat} {w w':World} {b:Nat} {y:Lx_u} (h:LeIs w b y) (f:Fr S w w') (hb:b∉S):LeIs w' b y:=Pb.kept h f hb
theorem LeIs.lt {w:World} {b:Nat} {y:Lx_u} (h:LeIs w b y):b<w.heap.size:=Pb.lt h
def runL:Nat→Lx_u→St→Lx_u×St
 | 0,y,s=>(y,s)
 | n+1,y,s=>let r:=runL n y s;r.1.go r.2
theorem mate_ln (y:Lx_u) (m:Int):0≤y.mateL m∧y.mateL m≤11:=by unfold Lx_u.mateL;split <;> omega
theorem beh_ln (y:Lx_u):0≤y.behL∧y.behL≤11:=by have h1:=mate_ln y y.f4;have h2:=mate_ln y y.f6;unfold Lx_u.behL;(repeat' split) <;> omega
theorem go_ln {y:Lx_u} {s:St} (h:0≤y.ln∧y.ln≤11):0≤(y.go s).1.ln∧(y.go s).1.ln≤11:=by
 unfold Lx_u.go;by_cases e:y.ln=11
 ·rw [qf e];exact h
 ·rw [qd e];exact beh_ln _
theorem run_ln {y:Lx_u} {s:St} (h:0≤y.ln∧y.ln≤11):∀ n,0≤(runL n y s).1.ln∧(runL n y s).1.ln≤11
 | 0=>h
 | n+1=>go_ln (run_ln h n)
def PostK (w:World) (b p q:Nat) (y:Lx_u) (s:St) (e:Ending) (w':World):Prop:=e = .returned (.bool (decide (y.ln=11)))∧LeIs w' b y∧Ar w' p q s∧Fr [b,p,q] w w'
theorem lstep_any {w:World} {b p q:Nat} {y:Lx_u} {s:St} (hl:0≤y.ln∧y.ln≤11) (h:LeIs w b y) (hA:Ar w p q s) (hne:b≠p∧b≠q):Calls Tryz.prog 11 #[.pointer (some ⟨b,0,none⟩),.pointer (some ⟨p,0,none⟩)] w (PostK w b p q (y.go s).1 (y.go s).2) :=
 (step_any (o:=0) hl h rfl hA hne).mono fun e w' h=>h
theorem lchk_any {w:World} {b:Nat} {y:Lx_u} (h:LeIs w b y):Calls Tryz.prog 12 #[.pointer (some ⟨b,0,none⟩)] w (PostC w y.rl y.rm y.ra):=chk_any (o:=0) h rfl
theorem ldrw_any {w:World} {b:Nat} {y:Lx_u} (h:LeIs w b y):Calls Tryz.prog 15 #[.pointer (some ⟨b,0,none⟩)] w fun e w'=>e = .returned (.bool y.dw)∧w=w':=drw_any (o:=0) h rfl
end Go.Proofs.YtleclbldlladmaaGreat.Le_u
namespace Go.Proofs.YtleclbldlladmaaGreat.Le_u
open Go.RowKit Go.Proofs.YtleclbldlladmaaGreat.Ar Go.Proofs.YtleclbldlladmaaGreat.Mx
theorem pkD (l:List Int) (q:Int):qw l q=if 0≤q∧q<(l.length:Int) then l.getD q.toNat 0 else 0:=by unfold qw J6 nth;simp only [Bool.and_eq_true,decide_eq_true_eq]
theorem pkP (l:List Int) (p v q:Int):qw (yl l p v) q=if q=p∧0≤p∧p<(l.length:Int) then v else qw l q:=by
 by_cases hp:0≤p∧p<(l.length:Int)
 ·obtain ⟨k,rfl⟩:=Int.eq_ofNat_of_zero_le hp.1;have hk:k<l.length:=by omega
  have e:yl l (k:Int) v=l.set k v:=by unfold yl J6;simp [hk]
  rw [e,pkD,pkD l,List.length_set];by_cases hq:0≤q∧q<(l.length:Int)
  ·rw [qf hq,qf hq];by_cases h:q=(k:Int)
   ·subst h;rw [qf ⟨rfl,hp⟩,Int.toNat_natCast,List.getD_eq_getElem?_getD,List.getElem?_set_self hk];rfl
   ·rw [qd A0e,List.getD_eq_getElem?_getD,List.getD_eq_getElem?_getD,List.getElem?_set_ne A0e]
  ·rw [qd hq,qd hq,qd A0e]
 ·have e:yl l p v=l:=by unfold yl;rw [qd (by unfold J6;simp;omega)]
  rw [e,qd A0e]
theorem lnP (l:List Int) (p v:Int):(yl l p v).length=l.length:=by unfold yl;split <;> simp
theorem swL (s:St) (a o v:Int):(s.swap a o v).l=if 0≤a∧a<(s.l.length:Int)∧qw s.l a=o then yl s.l a v else s.l:=by
 unfold St.swap St.can J6;by_cases h:0≤a∧a<(s.l.length:Int)∧qw s.l a=o
 ·rw [qf h,qf (by simp [h.1,h.2.1,h.2.2])];rfl
 ·rw [qd h];by_cases h2:(decide (0≤a) && decide (a<(s.l.length:Int)) && (qw s.l a == o))=true
  ·exfalso;simp at h2;exact h ⟨h2.1.1,h2.1.2,h2.2⟩
  ·rw [qd h2];rfl
def Fw_u (s:St) (a i:Int):Int:=qw s.l (a+i)
structure Wd (K:Int→Prop) (s:St):Prop where
 sz:(s.l.length:Int)≤1000000000
 al:∀ a,K a→2≤a∧a+6<(s.l.length:Int)
 ap:∀ a b,K a→K b→a≠b→a+7≤b∨b+7≤a
 ld:∀ a,K a→Fw_u s a 3=0∨K (Fw_u s a 3)
 nx:∀ a,K a→0≤Fw_u s a 2∧Fw_u s a 2≤4000000001∧(Fw_u s a 2 / 2=0∨K (Fw_u s a 2 / 2))
structure Sb_u (K:Int→Prop) (s s':St):Prop where
 len:s'.l.length=s.l.length
 ld:∀ a,K a→Fw_u s a 3≠0→Fw_u s' a 3=Fw_u s a 3
 nx:∀ a,K a→Fw_u s' a 2 / 2=Fw_u s a 2 / 2
 mkd:∀ a,K a→Fw_u s a 2 % 2=1→Fw_u s' a 2=Fw_u s a 2
 mt:∀ a,K a→Fw_u s a 4≠0→Fw_u s' a 4=Fw_u s a 4
theorem Sb_u.refl (K:Int→Prop) (s:St):Sb_u K s s:=⟨rfl,fun _ _ _=>rfl,fun _ _=>rfl,fun _ _ _=>rfl,fun _ _ _=>rfl⟩
theorem Sb_u.of_eq {K:Int→Prop} {s s':St} (h:s'.l=s.l):Sb_u K s s':=by
 have e:∀ a i,Fw_u s' a i=Fw_u s a i:=fun a i=>by unfold Fw_u;rw [h]
 exact ⟨by rw [h],fun _ _ _=>e _ _,fun _ _=>by rw [e],fun _ _ _=>e _ _,fun _ _ _=>e _ _⟩
theorem Sb_u.trans {K:Int→Prop} {s s' t:St} (h:Sb_u K s s') (k:Sb_u K s' t):Sb_u K s t :=
 ⟨k.len.trans h.len,fun a e n=>(k.ld a e (by rw [h.ld a e n];exact n)).trans (h.ld a e n),fun a e=>(k.nx a e).trans (h.nx a e),
  fun a e n=>(k.mkd a e (by rw [h.mkd a e n];exact n)).trans (h.mkd a e n),fun a e n=>(k.mt a e (by rw [h.mt a e n];exact n)).trans (h.mt a e n)⟩
structure LdI (K:Int→Prop) (y:Lx_u) (s:St):Prop where
 ch:K y.ch
 ln:0≤y.ln∧y.ln≤11
 l1:1≤y.ln→Fw_u s y.ch 3≠0
 l2:2≤y.ln→K y.f1∧Fw_u s y.ch 3=y.f1
 l3:y.ln=3→y.f2 % 2=0∧y.f2 / 2=Fw_u s y.f1 2 / 2
 l4:4≤y.ln→Fw_u s y.f1 2=y.f2∧y.f2 % 2=1
 l6:6≤y.ln→Fw_u s y.f1 4≠0
 l7:7≤y.ln→y.ln≤10→Fw_u s y.f1 4≠1∧K y.n
 l8:8≤y.ln→y.ln≤10→Fw_u s y.n 3≠0
 l9:9≤y.ln→y.ln≤10→Fw_u s y.n 3=y.f1
 l10:y.ln=10→y.f9 % 2=0∧y.f9 / 2=Fw_u s y.n 2 / 2
 z9:y.ln≤9→y.f9 % 2=0
 e:y.ln=11→(y.f9 % 2=0∧(Fw_u s y.f1 4=1∨y.n=0∨(K y.n∧Fw_u s y.n 3≠0∧Fw_u s y.n 3≠y.f1)))∨(y.f9 % 2=1∧Fw_u s y.f1 4≠1∧K y.n∧Fw_u s y.n 3=y.f1∧Fw_u s y.n 2=y.f9)
theorem at_in {w:Int} (h0:0≤w) (h1:w≤4000000001):atL w=w / 2:=by unfold atL Word.un;omega
theorem LdI.n {K:Int→Prop} {y:Lx_u} {s:St} (h:LdI K y s) (W:Wd K s) (l:4≤y.ln):y.n=Fw_u s y.f1 2 / 2:=by obtain ⟨e,-⟩:=h.l4 l;obtain ⟨h0,h1,-⟩:=W.nx _ (h.l2 A0e).1;unfold Lx_u.n;rw [← e];exact at_in h0 h1
theorem LdI.nK {K:Int→Prop} {y:Lx_u} {s:St} (h:LdI K y s) (W:Wd K s) (l:4≤y.ln):y.n=0∨K y.n:=by rw [h.n W l];exact (W.nx _ (h.l2 A0e).1).2.2
theorem LdI.sb {K:Int→Prop} {y:Lx_u} {s s':St} (h:LdI K y s) (b:Sb_u K s s'):LdI K y s':=by
 refine ⟨h.ch,h.ln,fun l=>?_,fun l=>⟨(h.l2 l).1,?_⟩,fun l=>⟨(h.l3 l).1,?_⟩,fun l=>⟨?_,(h.l4 l).2⟩,fun l=>?_,fun l k=>⟨?_,(h.l7 l k).2⟩,fun l k=>?_,fun l k=>?_,fun l=>⟨(h.l10 l).1,?_⟩,h.z9,fun l=>?_⟩
 ·rw [b.ld _ h.ch (h.l1 l)];exact h.l1 l
 ·rw [b.ld _ h.ch (h.l1 A0e)];exact (h.l2 l).2
 ·rw [b.nx _ (h.l2 A0e).1];exact (h.l3 l).2
 ·rw [b.mkd _ (h.l2 A0e).1 (by rw [(h.l4 l).1];exact (h.l4 l).2)];exact (h.l4 l).1
 ·rw [b.mt _ (h.l2 A0e).1 (h.l6 l)];exact h.l6 l
 ·rw [b.mt _ (h.l2 A0e).1 (h.l6 A0e)];exact (h.l7 l k).1
 ·rw [b.ld _ (h.l7 A0e k).2 (h.l8 l k)];exact h.l8 l k
 ·rw [b.ld _ (h.l7 A0e k).2 (h.l8 A0e k)];exact h.l9 l k
 ·rw [b.nx _ (h.l7 A0e A0e).2];exact (h.l10 l).2
 ·rcases h.e l with ⟨h1,h2⟩ | ⟨h1,h2,h3,h4,h5⟩
  ·refine .inl ⟨h1,?_⟩;rcases h2 with h2 | h2 | ⟨h2,h3,h4⟩
   ·left;rw [b.mt _ (h.l2 A0e).1 (h.l6 A0e)];exact h2
   ·exact .inr (.inl h2)
   ·refine .inr (.inr ⟨h2,?_,?_⟩)
    ·rw [b.ld _ h2 h3];exact h3
    ·rw [b.ld _ h2 h3];exact h4
  ·have f1:y.f1≠0:=by rw [← (h.l2 A0e).2];exact h.l1 A0e
   refine .inr ⟨h1,?_,h3,?_,?_⟩
   ·rw [b.mt _ (h.l2 A0e).1 (h.l6 A0e)];exact h2
   ·rw [b.ld _ h3 (by rw [h4];exact f1)];exact h4
   ·rw [b.mkd _ h3 (by rw [h5];exact h1)];exact h5
def Eff (y:Lx_u) (s:St) (l':List Int):Prop :=
 l'=s.l∨(y.ln=0∧Fw_u s y.ch 3=0∧l'=yl s.l (y.ch+3) y.ch)∨(y.ln=3∧Fw_u s y.f1 2=y.f2∧l'=yl s.l (y.f1+2) (y.f2+1))∨(y.ln=5∧Fw_u s y.f1 4=0∧l'=yl s.l (y.f1+4) y.who)
  ∨ (y.ln=7∧Fw_u s y.n 3=0∧l'=yl s.l (y.n+3) y.f1)∨(y.ln=10∧Fw_u s y.n 2=y.f9∧l'=yl s.l (y.n+2) (y.f9+1))
theorem go_st {y:Lx_u} {s:St} (h:y.ln≠11):y.go s=(y.step s,y.act s):=by unfold Lx_u.go;rw [qd h]
theorem wr {a:Int} (h0:0≤a) (h1:a≤9000000000):wrap64 a=a:=w64 A0e A0e
section
variable {K:Int→Prop} {y:Lx_u} {s:St}
theorem g0 (l:y.ln=0):(y.go s).1 = { y with f0:=0,ln:=1 } ∧ (y.go s).2=s.swap (wrap64 (y.ch+3)) 0 y.ch:=Pw
theorem g1 (l:y.ln=1):(y.go s).1 = { y with f1:=qw s.l (wrap64 (y.ch+3)),ln:=2 } ∧ (y.go s).2.l=s.l:=A0b
theorem g2 (l:y.ln=2):(y.go s).1 = { y with f2:=qw s.l (wrap64 (y.f1+2)),ln:=if mkL (qw s.l (wrap64 (y.f1+2)))=true then 4 else 3 } ∧ (y.go s).2.l=s.l:=A0b
theorem g3 (l:y.ln=3):(y.go s).1 = { y with f3:=0,ln:=2 } ∧ (y.go s).2=s.swap (wrap64 (y.f1+2)) y.f2 (wrap64 (y.f2+1)):=Pw
theorem g4 (l:y.ln=4):(y.go s).1 = { y with f4:=qw s.l (wrap64 (y.f1+4)),ln:=if qw s.l (wrap64 (y.f1+4))=0 then 5 else if qw s.l (wrap64 (y.f1+4))=1∨y.n=0 then 11 else 7 } ∧ (y.go s).2.l=s.l:=A00
theorem g5 (l:y.ln=5):(y.go s).1 = { y with dw:=true,f5:=0,ln:=6 } ∧ (y.go s).2=s.swap (wrap64 (y.f1+4)) 0 y.who:=Pw
theorem g6 (l:y.ln=6):(y.go s).1 = { y with f6:=qw s.l (wrap64 (y.f1+4)),ln:=if qw s.l (wrap64 (y.f1+4))=1∨y.n=0 then 11 else 7 } ∧ (y.go s).2.l=s.l:=A00
theorem g7 (l:y.ln=7):(y.go s).1 = { y with f7:=0,ln:=8 } ∧ (y.go s).2=s.swap (wrap64 (y.n+3)) 0 y.f1:=Pw
theorem g8 (l:y.ln=8):(y.go s).1 = { y with f8:=qw s.l (wrap64 (y.n+3)),ln:=if qw s.l (wrap64 (y.n+3))=y.f1 then 9 else 11 } ∧ (y.go s).2.l=s.l:=A0b
theorem g9 (l:y.ln=9):(y.go s).1 = { y with f9:=qw s.l (wrap64 (y.n+2)),ln:=if mkL (qw s.l (wrap64 (y.n+2)))=true then 11 else 10 } ∧ (y.go s).2.l=s.l:=A0b
theorem g10 (l:y.ln=10):(y.go s).1 = { y with f10:=0,ln:=9 } ∧ (y.go s).2=s.swap (wrap64 (y.n+2)) y.f9 (wrap64 (y.f9+1)):=Pw
theorem g11 (l:y.ln=11):y.go s=(y,s):=by unfold Lx_u.go;rw [qf l]
theorem eff (h:LdI K y s) (W:Wd K s):Eff y s (y.go s).2.l:=by
 have hc:=W.al _ h.ch;have hz:=W.sz;rcases (by have:=h.ln;omega:y.ln=0∨y.ln=1∨y.ln=2∨y.ln=3∨y.ln=4∨y.ln=5∨y.ln=6∨y.ln=7∨y.ln=8∨y.ln=9∨y.ln=10∨y.ln=11) with l | l | l | l | l | l | l | l | l | l | l | l
 ·rw [(g0 l).2,wr A0e A0e,swL];split
  ·rename_i e;exact .inr (.inl ⟨l,e.2.2,rfl⟩)
  ·exact .inl rfl
 ·exact .inl (g1 l).2
 ·exact .inl (g2 l).2
 ·have hf:=W.al _ (h.l2 A0e).1;have hx:=W.nx _ (h.l2 A0e).1;have hy:=h.l3 l;rw [(g3 l).2,wr A0e A0e,wr A0e A0e,swL];split
  ·rename_i e;exact .inr (.inr (.inl ⟨l,e.2.2,rfl⟩))
  ·exact .inl rfl
 ·exact .inl (g4 l).2
 ·have hf:=W.al _ (h.l2 A0e).1;rw [(g5 l).2,wr A0e A0e,swL];split
  ·rename_i e;exact .inr (.inr (.inr (.inl ⟨l,e.2.2,rfl⟩)))
  ·exact .inl rfl
 ·exact .inl (g6 l).2
 ·have hf:=W.al _ (h.l7 A0e A0e).2;rw [(g7 l).2,wr A0e A0e,swL];split
  ·rename_i e;exact .inr (.inr (.inr (.inr (.inl ⟨l,e.2.2,rfl⟩))))
  ·exact .inl rfl
 ·exact .inl (g8 l).2
 ·exact .inl (g9 l).2
 ·have hf:=W.al _ (h.l7 A0e A0e).2;have hx:=W.nx _ (h.l7 A0e A0e).2;have hy:=h.l10 l;rw [(g10 l).2,wr A0e A0e,wr A0e A0e,swL];split
  ·rename_i e;exact .inr (.inr (.inr (.inr (.inr ⟨l,e.2.2,rfl⟩))))
  ·exact .inl rfl
 ·rw [g11 l];exact .inl rfl
end
end Go.Proofs.YtleclbldlladmaaGreat.Le_u
namespace Go.Proofs.YtleclbldlladmaaGreat.Le_u
open Go.RowKit Go.Proofs.YtleclbldlladmaaGreat.Ar Go.Proofs.YtleclbldlladmaaGreat.Mx
section
variable {K:Int→Prop} {y:Lx_u} {s s':St} {c i v:Int}
theorem fw_poke (W:Wd K s) (hc:K c) (hi:0≤i∧i≤6) (he:s'.l=yl s.l (c+i) v):∀ a j,K a→0≤j→j≤6→Fw_u s' a j=if a=c∧j=i then v else Fw_u s a j:=by
 intro a j ha h0 h6;have h1:=W.al _ ha;have h2:=W.al _ hc;unfold Fw_u;rw [he,pkP];by_cases e:a=c
 ·subst e;by_cases e2:j=i
  ·subst e2;rw [qf A0e,qf ⟨rfl,rfl⟩]
  ·rw [qd A0e,qd (fun h=>e2 h.2)]
 ·have:=W.ap a c ha hc e;rw [qd A0e,qd (fun h=>e h.1)]
theorem poke_sb (W:Wd K s) (hc:K c) (he:s'.l=yl s.l (c+i) v) (h:(i=3∧Fw_u s c 3=0∧K v)∨(i=2∧v=Fw_u s c 2+1∧Fw_u s c 2 % 2=0)∨(i=4∧Fw_u s c 4=0)):Sb_u K s s'∧Wd K s':=by
 have hi:0≤i∧i≤6:=by omega
 have F:=fw_poke W hc hi he;have hl:s'.l.length=s.l.length:=by rw [he,lnP]
 refine ⟨⟨hl,fun a ha h3=>?_,fun a ha=>?_,fun a ha h2=>?_,fun a ha h4=>?_⟩,⟨by rw [hl];exact W.sz,fun a ha=>by rw [hl];exact W.al a ha,W.ap,fun a ha=>?_,fun a ha=>?_⟩⟩
 ·rw [F a 3 ha A0f A0f,qd];rintro ⟨rfl,e⟩;rcases h with ⟨-,h,-⟩ | ⟨h,-⟩ | ⟨h,-⟩
  ·exact h3 h
  ·omega
  ·omega
 ·rw [F a 2 ha A0f A0f];split
  ·rename_i e;obtain ⟨rfl,e⟩:=e;rcases h with ⟨h,-⟩ | ⟨-,h,k⟩ | ⟨h,-⟩ <;> omega
  ·rfl
 ·rw [F a 2 ha A0f A0f,qd];rintro ⟨rfl,e⟩;rcases h with ⟨h,-⟩ | ⟨-,h,k⟩ | ⟨h,-⟩ <;> omega
 ·rw [F a 4 ha A0f A0f,qd];rintro ⟨rfl,e⟩;rcases h with ⟨h,-⟩ | ⟨h,-⟩ | ⟨-,h⟩
  ·omega
  ·omega
  ·exact h4 h
 ·rw [F a 3 ha A0f A0f];split
  ·rename_i e;rcases h with ⟨-,-,h⟩ | ⟨h,-⟩ | ⟨h,-⟩
   ·exact .inr h
   ·omega
   ·omega
  ·exact W.ld a ha
 ·rw [F a 2 ha A0f A0f];have hx:=W.nx a ha;split
  ·rename_i e;obtain ⟨rfl,e⟩:=e;rcases h with ⟨h,-⟩ | ⟨-,h,k⟩ | ⟨h,-⟩
   ·omega
   ·refine ⟨by omega,by omega,?_⟩;rw [show v / 2=Fw_u s a 2 / 2 by omega];exact hx.2.2
   ·omega
  ·exact hx
theorem go_sb (h:LdI K y s) (W:Wd K s):Sb_u K s (y.go s).2∧Wd K (y.go s).2:=by
 rcases eff h W with e | ⟨l,h0,e⟩ | ⟨l,h0,e⟩ | ⟨l,h0,e⟩ | ⟨l,h0,e⟩ | ⟨l,h0,e⟩
 ·refine ⟨Sb_u.of_eq e,?_⟩;have q:∀ a i,Fw_u (y.go s).2 a i=Fw_u s a i:=fun a i=>by unfold Fw_u;rw [e]
  exact ⟨by rw [e];exact W.sz,fun a ha=>by rw [e];exact W.al a ha,W.ap,fun a ha=>by rw [q];exact W.ld a ha,fun a ha=>by rw [q];exact W.nx a ha⟩
 ·exact poke_sb W h.ch e (.inl ⟨rfl,h0,h.ch⟩)
 ·exact poke_sb W (h.l2 A0e).1 e (.inr (.inl ⟨rfl,by rw [h0],by rw [h0];exact (h.l3 l).1⟩))
 ·exact poke_sb W (h.l2 A0e).1 e (.inr (.inr ⟨rfl,h0⟩))
 ·exact poke_sb W (h.l7 A0e A0e).2 e (.inl ⟨rfl,h0,(h.l2 A0e).1⟩)
 ·exact poke_sb W (h.l7 A0e A0e).2 e (.inr (.inl ⟨rfl,by rw [h0],by rw [h0];exact (h.l10 l).1⟩))
theorem swap_nz (W:Wd K s) (hc:K c) (hi:0≤i∧i≤6) (hv:v≠0):Fw_u (s.swap (c+i) 0 v) c i≠0:=by
 have h2:=W.al _ hc;unfold Fw_u;rw [swL];by_cases e:qw s.l (c+i)=0
 ·rw [qf ⟨by omega,by omega,e⟩,pkP,qf A0e];exact hv
 ·rw [qd (by rintro ⟨-,-,h⟩;exact e h)];exact e
theorem mk_iff {v:Int}:mkL v=true↔v % 2=1:=by unfold mkL;simp
theorem LdI.go (h:LdI K y s) (W:Wd K s):LdI K (y.go s).1 (y.go s).2:=by
 obtain ⟨S,W'⟩:=go_sb h W;have I:=h.sb S;have hz:=W.sz;have hc:=W.al _ h.ch;rcases (by have:=h.ln;omega:y.ln=0∨y.ln=1∨y.ln=2∨y.ln=3∨y.ln=4∨y.ln=5∨y.ln=6∨y.ln=7∨y.ln=8∨y.ln=9∨y.ln=10∨y.ln=11) with l | l | l | l | l | l | l | l | l | l | l | l
 ·obtain ⟨e1,e2⟩:=g0 (s:=s) l;have nz:Fw_u (y.go s).2 y.ch 3≠0:=by rw [e2,wr A0e A0e];exact swap_nz W h.ch A0f A0e
  rw [e1];exact ⟨I.ch,by show (0:Int)≤1∧(1:Int)≤11;omega,fun _=>nz,fun k=>absurd (show (2:Int)≤1 from k) A0f,fun k=>absurd (show (1:Int)=3 from k) A0f,fun k=>absurd (show (4:Int)≤1 from k) A0f,fun k=>absurd (show (6:Int)≤1 from k) A0f,fun k=>absurd (show (7:Int)≤1 from k) A0f,fun k=>absurd (show (8:Int)≤1 from k) A0f,fun k=>absurd (show (9:Int)≤1 from k) A0f,fun k=>absurd (show (1:Int)=10 from k) A0f,fun _=>h.z9 A0e,fun k=>absurd (show (1:Int)=11 from k) A0f⟩
 ·obtain ⟨e1,e2⟩:=g1 (s:=s) l;rw [wr A0e A0e] at e1;have hp:Fw_u (y.go s).2 y.ch 3=qw s.l (y.ch+3):=by unfold Fw_u;rw [e2]
  have nz:=I.l1 A0e
  have hk:K (qw s.l (y.ch+3)):=by
   rcases W'.ld _ h.ch with k | k
   ·exact absurd k nz
   ·rw [hp] at k;exact k
  rw [e1];exact ⟨I.ch,by show (0:Int)≤2∧(2:Int)≤11;omega,fun _=>nz,fun _=>⟨hk,hp⟩,fun k=>absurd (show (2:Int)=3 from k) A0f,fun k=>absurd (show (4:Int)≤2 from k) A0f,fun k=>absurd (show (6:Int)≤2 from k) A0f,fun k=>absurd (show (7:Int)≤2 from k) A0f,fun k=>absurd (show (8:Int)≤2 from k) A0f,fun k=>absurd (show (9:Int)≤2 from k) A0f,fun k=>absurd (show (2:Int)=10 from k) A0f,fun _=>h.z9 A0e,fun k=>absurd (show (2:Int)=11 from k) A0f⟩
 ·have hf:=W.al _ (h.l2 A0e).1;obtain ⟨e1,e2⟩:=g2 (s:=s) l;rw [wr A0e A0e] at e1;have hp:Fw_u (y.go s).2 y.f1 2=qw s.l (y.f1+2):=by unfold Fw_u;rw [e2]
  have nz:=I.l1 A0e;have l2:=I.l2 A0e;by_cases m:qw s.l (y.f1+2) % 2=1
  ·rw [qf (mk_iff.2 m)] at e1;rw [e1];exact ⟨I.ch,by show (0:Int)≤4∧(4:Int)≤11;omega,fun _=>nz,fun _=>l2,fun k=>absurd (show (4:Int)=3 from k) A0f,fun _=>⟨hp,m⟩,fun k=>absurd (show (6:Int)≤4 from k) A0f,fun k=>absurd (show (7:Int)≤4 from k) A0f,fun k=>absurd (show (8:Int)≤4 from k) A0f,fun k=>absurd (show (9:Int)≤4 from k) A0f,fun k=>absurd (show (4:Int)=10 from k) A0f,fun _=>h.z9 A0e,fun k=>absurd (show (4:Int)=11 from k) A0f⟩
  ·rw [qd (fun k=>m (mk_iff.1 k))] at e1;rw [e1];exact ⟨I.ch,by show (0:Int)≤3∧(3:Int)≤11;omega,fun _=>nz,fun _=>l2,fun _=>⟨by show qw s.l (y.f1+2) % 2=0;omega,by rw [hp]⟩,fun k=>absurd (show (4:Int)≤3 from k) A0f,fun k=>absurd (show (6:Int)≤3 from k) A0f,fun k=>absurd (show (7:Int)≤3 from k) A0f,fun k=>absurd (show (8:Int)≤3 from k) A0f,fun k=>absurd (show (9:Int)≤3 from k) A0f,fun k=>absurd (show (3:Int)=10 from k) A0f,fun _=>h.z9 A0e,fun k=>absurd (show (3:Int)=11 from k) A0f⟩
 ·obtain ⟨e1,e2⟩:=g3 (s:=s) l;have nz:=I.l1 A0e;have l2:=I.l2 A0e;rw [e1];exact ⟨I.ch,by show (0:Int)≤2∧(2:Int)≤11;omega,fun _=>nz,fun _=>l2,fun k=>absurd (show (2:Int)=3 from k) A0f,fun k=>absurd (show (4:Int)≤2 from k) A0f,fun k=>absurd (show (6:Int)≤2 from k) A0f,fun k=>absurd (show (7:Int)≤2 from k) A0f,fun k=>absurd (show (8:Int)≤2 from k) A0f,fun k=>absurd (show (9:Int)≤2 from k) A0f,fun k=>absurd (show (2:Int)=10 from k) A0f,fun _=>h.z9 A0e,fun k=>absurd (show (2:Int)=11 from k) A0f⟩
 all_goals (have hf:=W.al _ (h.l2 A0e).1)
 all_goals (have nz:=I.l1 A0e)
 all_goals (have l2:=I.l2 A0e)
 all_goals (have l4:=I.l4 A0e)
 ·obtain ⟨e1,e2⟩:=g4 (s:=s) l;rw [wr A0e A0e] at e1;have hp:Fw_u (y.go s).2 y.f1 4=qw s.l (y.f1+4):=by unfold Fw_u;rw [e2]
  by_cases m:qw s.l (y.f1+4)=0
  ·rw [qf m] at e1;rw [e1];exact ⟨I.ch,by show (0:Int)≤5∧(5:Int)≤11;omega,fun _=>nz,fun _=>l2,fun k=>absurd (show (5:Int)=3 from k) A0f,fun _=>l4,fun k=>absurd (show (6:Int)≤5 from k) A0f,fun k=>absurd (show (7:Int)≤5 from k) A0f,fun k=>absurd (show (8:Int)≤5 from k) A0f,fun k=>absurd (show (9:Int)≤5 from k) A0f,fun k=>absurd (show (5:Int)=10 from k) A0f,fun _=>h.z9 A0e,fun k=>absurd (show (5:Int)=11 from k) A0f⟩
  ·rw [qd m] at e1;by_cases m2:qw s.l (y.f1+4)=1∨y.n=0
   ·rw [qf m2] at e1;rw [e1];refine ⟨I.ch,by show (0:Int)≤11∧(11:Int)≤11;omega,fun _=>nz,fun _=>l2,fun k=>absurd (show (11:Int)=3 from k) A0f,fun _=>l4,fun _=>by rw [show Fw_u (y.go s).2 _ 4=qw s.l (y.f1+4) from hp];exact m,fun _ k=>absurd (show (11:Int)≤10 from k) A0f,fun _ k=>absurd (show (11:Int)≤10 from k) A0f,fun _ k=>absurd (show (11:Int)≤10 from k) A0f,fun k=>absurd (show (11:Int)=10 from k) A0f,fun k=>absurd (show (11:Int)≤9 from k) A0f,fun _=>.inl ⟨h.z9 A0e,?_⟩⟩;exact A07
   ·rw [qd m2] at e1;rw [e1];exact ⟨I.ch,by show (0:Int)≤7∧(7:Int)≤11;omega,fun _=>nz,fun _=>l2,fun k=>absurd (show (7:Int)=3 from k) A0f,fun _=>l4,fun _=>by rw [show Fw_u (y.go s).2 _ 4=qw s.l (y.f1+4) from hp];exact m,fun _ _=>⟨by rw [show Fw_u (y.go s).2 _ 4=qw s.l (y.f1+4) from hp];exact fun k=>m2 (.inl k),(h.nK W A0e).resolve_left (fun k=>m2 (.inr k))⟩,fun k=>absurd (show (8:Int)≤7 from k) A0f,fun k=>absurd (show (9:Int)≤7 from k) A0f,fun k=>absurd (show (7:Int)=10 from k) A0f,fun _=>h.z9 A0e,fun k=>absurd (show (7:Int)=11 from k) A0f⟩
 ·obtain ⟨e1,e2⟩:=g5 (s:=s) l
  have hw:y.who≠0:=by
   unfold Lx_u.who;by_cases k:y.dr=true∧y.n≠0
   ·rw [qf k];exact k.2
   ·rw [qd k];decide
  have nm:Fw_u (y.go s).2 y.f1 4≠0:=by rw [e2,wr A0e A0e];exact swap_nz W (h.l2 A0e).1 A0f hw
  rw [e1];exact ⟨I.ch,by show (0:Int)≤6∧(6:Int)≤11;omega,fun _=>nz,fun _=>l2,fun k=>absurd (show (6:Int)=3 from k) A0f,fun _=>l4,fun _=>nm,fun k=>absurd (show (7:Int)≤6 from k) A0f,fun k=>absurd (show (8:Int)≤6 from k) A0f,fun k=>absurd (show (9:Int)≤6 from k) A0f,fun k=>absurd (show (6:Int)=10 from k) A0f,fun _=>h.z9 A0e,fun k=>absurd (show (6:Int)=11 from k) A0f⟩
 ·obtain ⟨e1,e2⟩:=g6 (s:=s) l;rw [wr A0e A0e] at e1;have hp:Fw_u (y.go s).2 y.f1 4=qw s.l (y.f1+4):=by unfold Fw_u;rw [e2]
  have l6:=I.l6 A0e;by_cases m2:qw s.l (y.f1+4)=1∨y.n=0
  ·rw [qf m2] at e1;rw [e1];refine ⟨I.ch,by show (0:Int)≤11∧(11:Int)≤11;omega,fun _=>nz,fun _=>l2,fun k=>absurd (show (11:Int)=3 from k) A0f,fun _=>l4,fun _=>l6,fun _ k=>absurd (show (11:Int)≤10 from k) A0f,fun _ k=>absurd (show (11:Int)≤10 from k) A0f,fun _ k=>absurd (show (11:Int)≤10 from k) A0f,fun k=>absurd (show (11:Int)=10 from k) A0f,fun k=>absurd (show (11:Int)≤9 from k) A0f,fun _=>.inl ⟨h.z9 A0e,?_⟩⟩;exact A07
  ·rw [qd m2] at e1;rw [e1];exact ⟨I.ch,by show (0:Int)≤7∧(7:Int)≤11;omega,fun _=>nz,fun _=>l2,fun k=>absurd (show (7:Int)=3 from k) A0f,fun _=>l4,fun _=>l6,fun _ _=>⟨by rw [show Fw_u (y.go s).2 _ 4=qw s.l (y.f1+4) from hp];exact fun k=>m2 (.inl k),(h.nK W A0e).resolve_left (fun k=>m2 (.inr k))⟩,fun k=>absurd (show (8:Int)≤7 from k) A0f,fun k=>absurd (show (9:Int)≤7 from k) A0f,fun k=>absurd (show (7:Int)=10 from k) A0f,fun _=>h.z9 A0e,fun k=>absurd (show (7:Int)=11 from k) A0f⟩
 ·obtain ⟨e1,e2⟩:=g7 (s:=s) l;have l7:=I.l7 A0e A0e;have hn:=W.al _ l7.2;have n3:Fw_u (y.go s).2 y.n 3≠0:=by rw [e2,wr A0e A0e];exact swap_nz W l7.2 A0f A0e
  rw [e1];exact ⟨I.ch,by show (0:Int)≤8∧(8:Int)≤11;omega,fun _=>nz,fun _=>l2,fun k=>absurd (show (8:Int)=3 from k) A0f,fun _=>l4,fun _=>I.l6 A0e,fun _ _=>l7,fun _ _=>n3,fun k=>absurd (show (9:Int)≤8 from k) A0f,fun k=>absurd (show (8:Int)=10 from k) A0f,fun _=>h.z9 A0e,fun k=>absurd (show (8:Int)=11 from k) A0f⟩
 ·obtain ⟨e1,e2⟩:=g8 (s:=s) l;have l7:=I.l7 A0e A0e;have l8:=I.l8 A0e A0e;have hn:=W.al _ l7.2;rw [wr A0e A0e] at e1;have hp:Fw_u (y.go s).2 y.n 3=qw s.l (y.n+3):=by unfold Fw_u;rw [e2]
  by_cases m:qw s.l (y.n+3)=y.f1
  ·rw [qf m] at e1;rw [e1];exact ⟨I.ch,by show (0:Int)≤9∧(9:Int)≤11;omega,fun _=>nz,fun _=>l2,fun k=>absurd (show (9:Int)=3 from k) A0f,fun _=>l4,fun _=>I.l6 A0e,fun _ _=>l7,fun _ _=>l8,fun _ _=>hp.trans m,fun k=>absurd (show (9:Int)=10 from k) A0f,fun _=>h.z9 A0e,fun k=>absurd (show (9:Int)=11 from k) A0f⟩
  ·rw [qd m] at e1;rw [e1];exact ⟨I.ch,by show (0:Int)≤11∧(11:Int)≤11;omega,fun _=>nz,fun _=>l2,fun k=>absurd (show (11:Int)=3 from k) A0f,fun _=>l4,fun _=>I.l6 A0e,fun _ k=>absurd (show (11:Int)≤10 from k) A0f,fun _ k=>absurd (show (11:Int)≤10 from k) A0f,fun _ k=>absurd (show (11:Int)≤10 from k) A0f,fun k=>absurd (show (11:Int)=10 from k) A0f,fun k=>absurd (show (11:Int)≤9 from k) A0f,fun _=>.inl ⟨h.z9 A0e,.inr (.inr ⟨l7.2,l8,fun k=>m (hp.symm.trans k)⟩)⟩⟩
 ·obtain ⟨e1,e2⟩:=g9 (s:=s) l;have l7:=I.l7 A0e A0e;have l8:=I.l8 A0e A0e;have l9:=I.l9 A0e A0e;have hn:=W.al _ l7.2;rw [wr A0e A0e] at e1;have hp:Fw_u (y.go s).2 y.n 2=qw s.l (y.n+2):=by unfold Fw_u;rw [e2]
  by_cases m:qw s.l (y.n+2) % 2=1
  ·rw [qf (mk_iff.2 m)] at e1;rw [e1];exact ⟨I.ch,by show (0:Int)≤11∧(11:Int)≤11;omega,fun _=>nz,fun _=>l2,fun k=>absurd (show (11:Int)=3 from k) A0f,fun _=>l4,fun _=>I.l6 A0e,fun _ k=>absurd (show (11:Int)≤10 from k) A0f,fun _ k=>absurd (show (11:Int)≤10 from k) A0f,fun _ k=>absurd (show (11:Int)≤10 from k) A0f,fun k=>absurd (show (11:Int)=10 from k) A0f,fun k=>absurd (show (11:Int)≤9 from k) A0f,fun _=>.inr ⟨m,l7.1,l7.2,l9,hp⟩⟩
  ·rw [qd (fun k=>m (mk_iff.1 k))] at e1;rw [e1];exact ⟨I.ch,by show (0:Int)≤10∧(10:Int)≤11;omega,fun _=>nz,fun _=>l2,fun k=>absurd (show (10:Int)=3 from k) A0f,fun _=>l4,fun _=>I.l6 A0e,fun _ _=>l7,fun _ _=>l8,fun _ _=>l9,fun _=>⟨by show qw s.l (y.n+2) % 2=0;omega,by show _=Fw_u _ y.n 2 / 2;rw [hp]⟩,fun k=>absurd (show (10:Int)≤9 from k) A0f,fun k=>absurd (show (10:Int)=11 from k) A0f⟩
 ·obtain ⟨e1,e2⟩:=g10 (s:=s) l;have l7:=I.l7 A0e A0e;have l8:=I.l8 A0e A0e;have l9:=I.l9 A0e A0e;rw [e1];exact ⟨I.ch,by show (0:Int)≤9∧(9:Int)≤11;omega,fun _=>nz,fun _=>l2,fun k=>absurd (show (9:Int)=3 from k) A0f,fun _=>l4,fun _=>I.l6 A0e,fun _ _=>l7,fun _ _=>l8,fun _ _=>l9,fun k=>absurd (show (9:Int)=10 from k) A0f,fun _=>(h.l10 l).1,fun k=>absurd (show (9:Int)=11 from k) A0f⟩
 ·rw [g11 l];exact h
theorem LdI.new {c:Int} (hc:K c) (dr:Bool) (s:St):LdI K (Lx_u.new c dr) s :=
 ⟨hc,by show (0:Int)≤0∧(0:Int)≤11;omega,fun k=>absurd (show (1:Int)≤0 from k) A0f,fun k=>absurd (show (2:Int)≤0 from k) A0f,fun k=>absurd (show (0:Int)=3 from k) A0f,fun k=>absurd (show (4:Int)≤0 from k) A0f,fun k=>absurd (show (6:Int)≤0 from k) A0f,fun k=>absurd (show (7:Int)≤0 from k) A0f,fun k=>absurd (show (8:Int)≤0 from k) A0f,fun k=>absurd (show (9:Int)≤0 from k) A0f,fun k=>absurd (show (0:Int)=10 from k) A0f,fun _=>rfl,fun k=>absurd (show (0:Int)=11 from k) A0f⟩
end
end Go.Proofs.YtleclbldlladmaaGreat.Le_u
namespace Go.Proofs.YtleclbldlladmaaGreat.Le_u
open Go.RowKit Go.Proofs.YtleclbldlladmaaGreat.Ar Go.Proofs.YtleclbldlladmaaGreat.Mx
def remL (y:Lx_u) (s:St):Nat :=
 if y.ln=11 then 0 else if y.ln=10 then 2 else if y.ln=9 then (if Fw_u s y.n 2 % 2=1 then 1 else 3) else if y.ln=8 then 4 else if y.ln=7 then 5 else if y.ln=6 then 6 else if y.ln=5 then 7
 else if y.ln=4 then 8 else if y.ln=3 then 10 else if y.ln=2 then (if Fw_u s y.f1 2 % 2=1 then 9 else 11) else if y.ln=1 then 12 else 13
theorem rem_le (y:Lx_u) (s:St):remL y s≤13:=by unfold remL;(repeat' split) <;> omega
theorem r0 {z:Lx_u} {t:St} (e:z.ln=0):remL z t=13:=by unfold remL;simp [e]
theorem r1 {z:Lx_u} {t:St} (e:z.ln=1):remL z t=12:=by unfold remL;simp [e]
theorem r2 {z:Lx_u} {t:St} (e:z.ln=2):remL z t=(if Fw_u t z.f1 2 % 2=1 then 9 else 11):=by unfold remL;simp [e]
theorem r3 {z:Lx_u} {t:St} (e:z.ln=3):remL z t=10:=by unfold remL;simp [e]
theorem r4 {z:Lx_u} {t:St} (e:z.ln=4):remL z t=8:=by unfold remL;simp [e]
theorem r5 {z:Lx_u} {t:St} (e:z.ln=5):remL z t=7:=by unfold remL;simp [e]
theorem r6 {z:Lx_u} {t:St} (e:z.ln=6):remL z t=6:=by unfold remL;simp [e]
theorem r7 {z:Lx_u} {t:St} (e:z.ln=7):remL z t=5:=by unfold remL;simp [e]
theorem r8 {z:Lx_u} {t:St} (e:z.ln=8):remL z t=4:=by unfold remL;simp [e]
theorem r9 {z:Lx_u} {t:St} (e:z.ln=9):remL z t=(if Fw_u t z.n 2 % 2=1 then 1 else 3):=by unfold remL;simp [e]
theorem r10 {z:Lx_u} {t:St} (e:z.ln=10):remL z t=2:=by unfold remL;simp [e]
theorem r11 {z:Lx_u} {t:St} (e:z.ln=11):remL z t=0:=by unfold remL;simp [e]
section
variable {K:Int→Prop} {y:Lx_u} {s s':St} {c v:Int}
theorem swap_mk (W:Wd K s) (hc:K c) (h0:v % 2=0) (h1:v / 2=Fw_u s c 2 / 2):Fw_u (s.swap (c+2) v (v+1)) c 2 % 2=1:=by
 have h2:=W.al _ hc;unfold Fw_u at *;rw [swL];by_cases e:qw s.l (c+2)=v
 ·rw [qf ⟨by omega,by omega,e⟩,pkP,qf A0e];omega
 ·rw [qd (by rintro ⟨-,-,h⟩;exact e h)];omega
theorem rem_go (h:LdI K y s) (W:Wd K s) (l:y.ln≠11):remL (y.go s).1 (y.go s).2<remL y s:=by
 have hz:=W.sz;have hc:=W.al _ h.ch;rcases (by have:=h.ln;omega:y.ln=0∨y.ln=1∨y.ln=2∨y.ln=3∨y.ln=4∨y.ln=5∨y.ln=6∨y.ln=7∨y.ln=8∨y.ln=9∨y.ln=10) with l | l | l | l | l | l | l | l | l | l | l
 ·rw [r0 l,r1 (z:=(y.go s).1) (by rw [(g0 l).1])];decide
 ·rw [r1 l,r2 (z:=(y.go s).1) (by rw [(g1 l).1])];show (if Fw_u (y.go s).2 _ 2 % 2=1 then 9 else 11)<12;split <;> omega
 ·have hf:=W.al _ (h.l2 A0e).1;have e1:=(g2 (s:=s) l).1;rw [wr A0e A0e] at e1;rw [r2 l];show _<(if Fw_u s y.f1 2 % 2=1 then 9 else 11);by_cases m:qw s.l (y.f1+2) % 2=1
  ·rw [qf (mk_iff.2 m)] at e1;rw [r4 (z:=(y.go s).1) A0l,qf (show Fw_u s y.f1 2 % 2=1 from m)];decide
  ·rw [qd (fun k=>m (mk_iff.1 k))] at e1;rw [r3 (z:=(y.go s).1) A0l,qd (show ¬ Fw_u s y.f1 2 % 2=1 from m)];decide
 ·obtain ⟨e1,e2⟩:=g3 (s:=s) l;have hx:=W.nx _ (h.l2 A0e).1;have hf:=W.al _ (h.l2 A0e).1;have h3:=h.l3 l;rw [wr A0e A0e,wr A0e A0e] at e2;have:=swap_mk W (h.l2 A0e).1 h3.1 h3.2;rw [r3 l,r2 (z:=(y.go s).1) A0l];show (if Fw_u (y.go s).2 (y.go s).1.f1 2 % 2=1 then 9 else 11)<10;rw [qf (by rw [e1,e2];exact this)];decide
 ·have e1:=(g4 (s:=s) l).1;rw [r4 l];show _<8;split at e1
  ·rw [r5 (z:=(y.go s).1) A0l];decide
  ·exact A04
 ·rw [r5 l,r6 (z:=(y.go s).1) (by rw [(g5 l).1])];decide
 ·have e1:=(g6 (s:=s) l).1;rw [r6 l];show _<6;exact A04
 ·rw [r7 l,r8 (z:=(y.go s).1) (by rw [(g7 l).1])];decide
 ·have e1:=(g8 (s:=s) l).1;rw [r8 l];show _<4;split at e1
  ·rw [r9 (z:=(y.go s).1) A0l];show (if Fw_u (y.go s).2 _ 2 % 2=1 then 1 else 3)<4;split <;> omega
  ·rw [r11 (z:=(y.go s).1) A0l];decide
 ·have hf:=W.al _ (h.l7 A0e A0e).2;have e1:=(g9 (s:=s) l).1;rw [wr A0e A0e] at e1;rw [r9 l];show _<(if Fw_u s y.n 2 % 2=1 then 1 else 3);by_cases m:qw s.l (y.n+2) % 2=1
  ·rw [qf (mk_iff.2 m)] at e1;rw [r11 (z:=(y.go s).1) A0l,qf (show Fw_u s y.n 2 % 2=1 from m)];decide
  ·rw [qd (fun k=>m (mk_iff.1 k))] at e1;rw [r10 (z:=(y.go s).1) A0l,qd (show ¬ Fw_u s y.n 2 % 2=1 from m)];decide
 ·obtain ⟨e1,e2⟩:=g10 (s:=s) l;have hk:=(h.l7 A0e A0e).2;have hx:=W.nx _ hk;have hf:=W.al _ hk;have h3:=h.l10 l;rw [wr A0e A0e,wr A0e A0e] at e2;have:=swap_mk W hk h3.1 h3.2;rw [r10 l,r9 (z:=(y.go s).1) A0l];show (if Fw_u (y.go s).2 (y.go s).1.n 2 % 2=1 then 1 else 3)<2;rw [qf (by rw [e1,e2];exact this)];decide
def Alone (s:St) (l:Int):Prop:=Fw_u s l 4=1∨Fw_u s l 2 / 2=0∨Fw_u s (Fw_u s l 2 / 2) 3≠l
instance (s:St) (l:Int):Decidable (Alone s l):=by unfold Alone;infer_instance
def resM (s:St) (l:Int):Int:=if Alone s l then 0 else Fw_u s l 2 / 2
def resA (s:St) (l:Int):Int:=if Alone s l then Fw_u s l 2 / 2 else Fw_u s (Fw_u s l 2 / 2) 2 / 2
theorem res (h:LdI K y s) (W:Wd K s) (l:y.ln=11):y.rl=Fw_u s y.ch 3∧y.rm=resM s (Fw_u s y.ch 3)∧y.ra=resA s (Fw_u s y.ch 3):=by
 have h2:=(h.l2 A0e).2;have hn:=h.n W A0e;have hk:=(h.l2 A0e).1;have f1:y.f1≠0:=by have:=W.al _ hk;omega
 unfold Lx_u.rl Lx_u.rm Lx_u.ra resM resA;rw [qf l,qf l,qf l,h2];rcases h.e l with ⟨e1,e2⟩ | ⟨e1,e2,e3,e4,e5⟩
 ·have a:Alone s y.f1:=A03
  have m:¬ mkL y.f9=true:=fun k=>by have:=mk_iff.1 k;omega
  rw [qd m,qd m,qf a,qf a];exact ⟨rfl,rfl,hn⟩
 ·have n0:y.n≠0:=by have:=W.al _ e3;omega
  have a:¬ Alone s y.f1:=by
   unfold Alone;rw [← hn];rintro (k | k | k)
   ·exact e2 k
   ·exact n0 k
   ·exact k e4
  have m:mkL y.f9=true:=mk_iff.2 e1;have hx:=W.nx _ e3;rw [qf m,qf m,qd a,qd a,← hn,e5];exact ⟨rfl,rfl,at_in A0e A0e⟩
theorem res_mk (h:LdI K y s) (l:y.ln=11):Fw_u s (Fw_u s y.ch 3) 2 % 2=1∧Fw_u s (Fw_u s y.ch 3) 4≠0∧K (Fw_u s y.ch 3):=by rw [(h.l2 A0e).2];exact ⟨by rw [(h.l4 A0e).1];exact (h.l4 A0e).2,h.l6 A0e,(h.l2 A0e).1⟩
theorem res_mm (h:LdI K y s) (W:Wd K s) (l:y.ln=11) (m:¬ Alone s (Fw_u s y.ch 3)):Fw_u s (Fw_u s (Fw_u s y.ch 3) 2 / 2) 2 % 2=1:=by
 have h2:=(h.l2 A0e).2;have hn:=h.n W A0e;rw [h2] at m ⊢;rcases h.e l with ⟨e1,e2⟩ | ⟨e1,e2,e3,e4,e5⟩
 ·exfalso;apply m;exact A03
 ·rw [← hn,e5];exact e1
end
end Go.Proofs.YtleclbldlladmaaGreat.Le_u
namespace Go.Proofs.YtleclbldlladmaaGreat.Le_u
open Go.RowKit Go.Proofs.YtleclbldlladmaaGreat.Ar Go.Proofs.YtleclbldlladmaaGreat.Mx
theorem go_ch' (z:Lx_u) (s:St):(z.go s).1.ch=z.ch∧(z.go s).1.dr=z.dr:=by
 have hp:∀ (u:Lx_u) (v:Int),(u.put v).ch=u.ch∧(u.put v).dr=u.dr:=fun u v=>by unfold Lx_u.put;(repeat' split) <;> exact ⟨rfl,rfl⟩
 have hd:z.drow.ch=z.ch∧z.drow.dr=z.dr:=by unfold Lx_u.drow;split <;> exact ⟨rfl,rfl⟩
 unfold Lx_u.go;by_cases e:z.ln=11
 ·rw [qf e];exact ⟨rfl,rfl⟩
 ·rw [qd e];exact ⟨(hp _ _).1.trans hd.1,(hp _ _).2.trans hd.2⟩
theorem rem_0 {K:Int→Prop} {z:Lx_u} {s:St} (h:LdI K z s) (e:remL z s=0):z.ln=11:=by
 have:=h.ln;by_cases l:z.ln=11
 ·exact l
 exfalso;rcases (by omega:z.ln=0∨z.ln=1∨z.ln=2∨z.ln=3∨z.ln=4∨z.ln=5∨z.ln=6∨z.ln=7∨z.ln=8∨z.ln=9∨z.ln=10) with k | k | k | k | k | k | k | k | k | k | k
 ·rw [r0 k] at e;omega
 ·rw [r1 k] at e;omega
 ·rw [r2 k] at e;split at e <;> omega
 ·rw [r3 k] at e;omega
 ·rw [r4 k] at e;omega
 ·rw [r5 k] at e;omega
 ·rw [r6 k] at e;omega
 ·rw [r7 k] at e;omega
 ·rw [r8 k] at e;omega
 ·rw [r9 k] at e;split at e <;> omega
 ·rw [r10 k] at e;omega
theorem rem_dec {K:Int→Prop} {z:Lx_u} {s:St} (h:LdI K z s) (W:Wd K s):remL (z.go s).1 (z.go s).2≤remL z s - 1:=by
 by_cases l:z.ln=11
 ·rw [g11 l];rw [r11 l];exact Nat.le_refl _
 ·have:=rem_go h W l;omega
section
variable {K:Int→Prop} {k:Int} {x y z:Lx_u} {s s':St}
structure Res (K:Int→Prop) (s:St) (l m f:Int):Prop where
 l0:K l
 m0:m=0∨(K m∧Fw_u s m 3=l)
 f0:m=0→f=Fw_u s l 2 / 2
 mk2:Fw_u s l 2 % 2=1
 mt:Fw_u s l 4≠0
 hm:m=resM s l
 hf:f=resA s l
 st:Alone s l→Fw_u s l 4=1∨Fw_u s l 2 / 2=0∨(K (Fw_u s l 2 / 2)∧Fw_u s (Fw_u s l 2 / 2) 3≠0∧Fw_u s (Fw_u s l 2 / 2) 3≠l)
theorem res_of (h:LdI K y s) (W:Wd K s) (l:y.ln=11):y.rl=Fw_u s y.ch 3∧Res K s y.rl y.rm y.ra:=by
 obtain ⟨e1,e2,e3⟩:=res h W l;obtain ⟨k1,k2,k3⟩:=res_mk h l;have h2:=(h.l2 A0e).2;have hn:=h.n W A0e;refine ⟨e1,?_⟩;rw [e1];refine ⟨k3,?_,?_,k1,k2,e2,e3,?_⟩
 ·rw [e2];unfold resM;by_cases a:Alone s (Fw_u s y.ch 3)
  ·rw [qf a];exact .inl rfl
  ·rw [qd a];right;have b0:¬ Fw_u s (Fw_u s y.ch 3) 2 / 2=0:=fun k=>a (.inr (.inl k))
   refine ⟨(W.nx _ k3).2.2.resolve_left b0,?_⟩;by_cases e:Fw_u s (Fw_u s (Fw_u s y.ch 3) 2 / 2) 3=Fw_u s y.ch 3
   ·exact e
   ·exact absurd (.inr (.inr e)) a
 ·intro m0;rw [e3];unfold resA;by_cases a:Alone s (Fw_u s y.ch 3)
  ·rw [qf a]
  ·exfalso;rw [e2] at m0;unfold resM at m0;rw [qd a] at m0;exact a (.inr (.inl m0))
 ·intro a;rw [h2] at a ⊢;rcases h.e l with ⟨d1,d2⟩ | ⟨d1,d2,d3,d4,d5⟩
  ·rw [← hn];exact d2
  ·exfalso;have n0:y.n≠0:=by have:=W.al _ d3;omega
   unfold Alone at a;rw [← hn] at a;rcases a with a | a | a
   ·exact d2 a
   ·exact n0 a
   ·exact a d4
end
end Go.Proofs.YtleclbldlladmaaGreat.Le_u
namespace Go.Proofs.YtleclbldlladmaaGreat.Pick16
open Go.RowKit Go.Proofs.YtleclbldlladmaaGreat.Ar Go.Proofs.YtleclbldlladmaaGreat.Ref Go.Proofs.YtleclbldlladmaaGreat.Mx Go.Proofs.YtleclbldlladmaaGreat.Rf Go.Proofs.YtleclbldlladmaaGreat.Ch
def PickOk (c:Cf) (len:Nat) (k:Int):Prop:=0≤k∧k+7+3 * c.c≤len
theorem fN_map (L:List Int):L.flatMap fN=L.map (fun x=>Value.int .i64 x):=by
 induction L with
 | nil=>rfl
 | cons x r ih=>rw [List.flatMap_cons,ih];rfl
theorem fN_get {L:List Int} {k:Nat} {x:Int} (h:L[k]? = some x):(L.flatMap fN)[k]? = some (.int .i64 x):=by rw [fN_map,List.getElem?_map,h];rfl
theorem told_ok {c:Cf} {n len:Nat} {L:List Int} (hn:c.c=n) (h:Ch.Told len n L) {k:Nat} {x:Int} (hx:L[k]? = some x):PickOk c len x:=by have:=h.2 x (List.mem_of_getElem? hx);unfold Vw.Z9 at this;simp only [Bool.and_eq_true,decide_eq_true_eq] at this;unfold PickOk;omega
def pickV (c:Cf) (s:St) (i:Int):Int:=if (q93 (qw s.l) s.l.length c.c.toNat c.t).length=0 then 3+c.t+4+7 else (q93 (qw s.l) s.l.length c.c.toNat c.t).getD (i % ((q93 (qw s.l) s.l.length c.c.toNat c.t).length:Int)).toNat 0
set_option maxRecDepth 100000 in
set_option maxHeartbeats 1600000 in
theorem q2g (c:Cf) (hc:c.Ok) (i:Int) (hi:0≤i∧i≤255) (p q:Nat) (s:St) (w:World) (hA:Rar w p q s) (hl:(s.l.length:Int)=c.wd) :
  Calls Tryz.prog 9 #[c.val,.pointer (some ⟨p,0,none⟩),.int .u8 i] w fun e w'=>e = .returned (.int .i64 (pickV c s i))∧PickOk c s.l.length (pickV c s i)∧Fr [] w w':=by
 have F0:=(Fr.refl [] w).alloc (.cells #[.int .i64 c.t,.int .i64 c.c,.int .i64 c.wd,.int .i64 c.v] 23);have o1:=Ob.new w 23 #[.int .i64 c.t,.int .i64 c.c,.int .i64 c.wd,.int .i64 c.v];obtain ⟨n,hn⟩:∃ n:Nat,c.c=n:=⟨c.c.toNat,by have:=hc.c2;have:=hc.t1;omega⟩;have HC:=q9 (qc hc (qc hn (qc hi hl)));have hR:=hA.kept F0 A0h A0h;have HV:=q9 (show pickV c s i=if (q93 (qw s.l) s.l.length n c.t).length=0 then 3+c.t+4+7 else (q93 (qw s.l) s.l.length n c.t).getD (i % ((q93 (qw s.l) s.l.length n c.t).length:Int)).toNat 0 by unfold pickV;rw [hn];rfl);generalize pickV c s i=pv at *;unfold Cf.val;rw [hn] at o1 F0 hR ⊢;have HN:=q9 hn;clear hn hc hA hi hl;obtain ⟨c0,c1,c2,c3⟩:=Pl.yu o1;go_enter Tryz.func9,Tryz.ntmps9;go_wp2_with fail;generalize World.alloc w _=w1 at *;generalize w.heap.size=bc at *;refine (rall_any c.t c.wd c.v n p q s w1 HC.out.1.t1 HC.out.1.t8 (by have:=HC.out.1.c2;have:=HC.out.1.t1;have:=HN.out;omega) (by have:=HC.out.1.c16;have:=HN.out;omega) hR).mono ?_;rintro e w2 ⟨⟨u,rfl,hu⟩,F2⟩;have hT:=allW_told (qw s.l) s.l.length n c.t;generalize q93 (qw s.l) s.l.length n c.t=L at *;have G:=F0.trans F2;replace o1:=o1.up F2;obtain ⟨a2,k2,rfl,hk2,hm2,hh⟩:=Sq.own (f:=fN) hu;have HT:=q9 hT;have HG:=q9 G;clear hu hR F0 F2 c0 c1 c2 c3 G hT;unfold maxLen at hm2;by_cases h0:L.length=0
 ·have g:((L.length:Int) == 0)=true:=by simp [h0]
  obtain ⟨c0,c1,c2,c3⟩:=Pl.yu o1;clear hh;go_wp2_with fail;refine (Ref.X7 c.t n c.wd c.v HC.out.1.t1 HC.out.1.t8 _).mono ?_;rintro e w3 ⟨rfl,F3⟩;go_wp2_with fail;go_ret;have hpv:=HV.out;rw [qf h0] at hpv;rw [hpv];refine ⟨rfl,?_,HG.out.trans F3⟩;have h1:=HC.out.1.top;have h2:=HC.out.1.t1;have h3:=HC.out.2.2.2;unfold PickOk;omega
 ·have g:((L.length:Int) == 0)=false:=by simpa using h0
  have hi:=HC.out.2.2.1;obtain h0' | ⟨gb,off,rfl,hg,hcell⟩:=hh
  ·exact absurd h0' h0
  obtain ⟨j,hj⟩:∃ j:Nat,i % (L.length:Int)=j:=⟨(i % (L.length:Int)).toNat,by have:=Int.emod_nonneg i (show (L.length:Int)≠0 by omega);omega⟩;have hjl:j<L.length:=by have:=Int.emod_lt_of_pos i (show (0:Int)<L.length by omega);omega
  have htm:Int.tmod i (L.length:Int)=j:=by rw [Int.tmod_eq_emod_of_nonneg hi.1];exact hj
  have hx:L[j]? = some (L[j]'hjl):=List.getElem?_eq_getElem hjl;have HE:=q9 (show pv=L[j]'hjl by rw [HV.out,qd h0,hj];simp [List.getD_eq_getElem?_getD,hjl]);generalize L[j]'hjl=x at *;have hc:=hcell j _ (fN_get hx);have HX:=q9 (told_ok HC.out.2.1 HT.out hx);clear hcell hx h0;go_wp2_with fail;go_ret;rw [HE.out];exact ⟨rfl,HX.out,HG.out⟩
end Go.Proofs.YtleclbldlladmaaGreat.Pick16
namespace Go.Proofs.YtleclbldlladmaaGreat.Le_u
open Go.RowKit Go.Proofs.YtleclbldlladmaaGreat.Ar Go.Proofs.YtleclbldlladmaaGreat.Mx
def Chg (K:Int→Prop) (k:Int) (s:St) (j:Int):Prop :=
 j=k+3∨(∃ l,K l∧Fw_u s k 3=l∧(j=l+2∨j=l+4))∨(∃ l n,K l∧Fw_u s k 3=l∧K n∧Fw_u s l 2 / 2=n∧Fw_u s l 4=n∧(j=n+3∨(j=n+2∧Fw_u s n 3=l)))
structure MkI (K:Int→Prop) (k:Int) (s0:St) (x:Lx_u) (s:St):Prop where
 W:Wd K s
 hx:LdI K x s
 cx:x.ch=k
 mt:∀ a,K a→Fw_u s a 4=0∨Fw_u s a 4=1∨Fw_u s a 4=Fw_u s a 2 / 2
 sf:Fw_u s k 3≠0→Fw_u s (Fw_u s k 3) 3=Fw_u s k 3
 cg:∀ j,qw s.l j=qw s0.l j∨Chg K k s j
section
variable {K:Int→Prop} {k:Int} {x:Lx_u} {s0 s s':St}
theorem Chg.sb {j:Int} (h:Chg K k s j) (hk:K k) (W:Wd K s) (b:Sb_u K s s'):Chg K k s' j:=by
 have nz:∀ a,K a→a≠0:=fun a ha=>by have:=W.al a ha;omega
 rcases h with h | ⟨l,h1,h2,h3⟩ | ⟨l,n,h1,h2,h3,h4,h5,h6⟩
 ·exact .inl h
 ·exact .inr (.inl ⟨l,h1,by rw [b.ld _ hk (by rw [h2];exact nz l h1)];exact h2,h3⟩)
 ·refine .inr (.inr ⟨l,n,h1,by rw [b.ld _ hk (by rw [h2];exact nz l h1)];exact h2,h3,by rw [b.nx _ h1];exact h4,by rw [b.mt _ h1 (by rw [h5];exact nz n h3)];exact h5,h6.imp id fun h=>⟨h.1,?_⟩⟩);rw [b.ld _ h3 (by rw [h.2];exact nz l h1)];exact h.2
theorem MkI.new (W:Wd K s) (hk:K k) (d:Bool) (mt:∀ a,K a→Fw_u s a 4=0∨Fw_u s a 4=1∨Fw_u s a 4=Fw_u s a 2 / 2) (sf:Fw_u s k 3≠0→Fw_u s (Fw_u s k 3) 3=Fw_u s k 3):MkI K k s (Lx_u.new k d) s :=
 ⟨W,LdI.new hk d s,rfl,mt,sf,fun _=>.inl rfl⟩
theorem pk_ne {l:List Int} {p v j:Int} (h:j≠p):qw (yl l p v) j=qw l j:=by rw [pkP,qd (fun e=>h e.1)]
theorem MkI.go (h:MkI K k s0 x s):MkI K k s0 (x.go s).1 (x.go s).2∧remL (x.go s).1 (x.go s).2≤remL x s - 1:=by
 obtain ⟨b,W⟩:=go_sb h.hx h.W;have hk:K k:=by rw [← h.cx];exact h.hx.ch
 have nz:∀ a,K a→a≠0:=fun a ha=>by have:=h.W.al a ha;omega
 have old:∀ j,qw s.l j=qw s0.l j∨Chg K k (x.go s).2 j:=fun j=>(h.cg j).imp id fun e=>e.sb hk h.W b
 have sf':Fw_u s k 3≠0→Fw_u (x.go s).2 k 3≠0→Fw_u (x.go s).2 (Fw_u (x.go s).2 k 3) 3=Fw_u (x.go s).2 k 3:=fun e1 _=>by have hK:=(h.W.ld k hk).resolve_left e1;rw [b.ld _ hk e1,b.ld _ hK (by rw [h.sf e1];exact e1)];exact h.sf e1
 have mt':(∀ a,K a→Fw_u s a 4=0→Fw_u (x.go s).2 a 4=0∨Fw_u (x.go s).2 a 4=1∨Fw_u (x.go s).2 a 4=Fw_u (x.go s).2 a 2 / 2)→∀ a,K a→Fw_u (x.go s).2 a 4=0∨Fw_u (x.go s).2 a 4=1∨Fw_u (x.go s).2 a 4=Fw_u (x.go s).2 a 2 / 2:=fun q a ha=>by
  by_cases e:Fw_u s a 4=0
  ·exact q a ha e
  ·rw [b.mt a ha e,b.nx a ha];exact h.mt a ha
 refine ⟨?_,rem_dec h.hx h.W⟩
 have L2:2≤x.ln→Fw_u (x.go s).2 k 3=x.f1:=fun l=>by have:=h.hx.l2 l;have h1:=h.hx.l1 A0e;rw [h.cx] at this h1;rw [b.ld _ hk h1];exact this.2
 rcases eff h.hx h.W with e | ⟨l,h0,e⟩ | ⟨l,h0,e⟩ | ⟨l,h0,e⟩ | ⟨l,h0,e⟩ | ⟨l,h0,e⟩
 ·have q:∀ a i,Fw_u (x.go s).2 a i=Fw_u s a i:=fun a i=>by unfold Fw_u;rw [e]
  exact ⟨W,h.hx.go h.W,(go_ch' x s).1.trans h.cx,mt' (fun a ha e1=>.inl (by rw [q];exact e1)),fun e1=>sf' (by rw [← q];exact e1) e1,fun j=>by rw [show qw (x.go s).2.l j=qw s.l j by rw [e]];exact old j⟩
 ·have F:=fw_poke h.W h.hx.ch A0f e;refine ⟨W,h.hx.go h.W,(go_ch' x s).1.trans h.cx,mt' (fun a ha e1=>.inl A0i),fun e1=>?_,fun j=>?_⟩
  ·have e3:Fw_u (x.go s).2 k 3=k:=by rw [F k 3 hk A0f A0f,qf ⟨h.cx.symm,rfl⟩];exact h.cx
   rw [e3,e3]
  ·by_cases ej:j=x.ch+3
   ·right;left;rw [← h.cx];exact ej
   ·exact A01
 ·have hf:=(h.hx.l2 A0e).1;have F:=fw_poke h.W hf A0f e;refine ⟨W,h.hx.go h.W,(go_ch' x s).1.trans h.cx,mt' (fun a ha e1=>.inl A0i),fun e1=>sf' A0j e1,fun j=>?_⟩;by_cases ej:j=x.f1+2
  ·exact .inr (.inr (.inl ⟨x.f1,hf,L2 A0e,.inl ej⟩))
  ·exact A01
 ·have hf:=(h.hx.l2 A0e).1;have F:=fw_poke h.W hf A0f e;have hn:=h.hx.n h.W A0e;refine ⟨W,h.hx.go h.W,(go_ch' x s).1.trans h.cx,mt' (fun a ha e1=>?_),fun e1=>sf' A0j e1,fun j=>?_⟩
  ·rw [F a 4 ha A0f A0f];by_cases ea:a=x.f1
   ·rw [qf ⟨ea,rfl⟩,ea,b.nx _ hf,← hn];unfold Lx_u.who;split
    ·exact .inr (.inr rfl)
    ·exact .inr (.inl rfl)
   ·rw [qd (fun k=>ea k.1)];exact .inl e1
  ·by_cases ej:j=x.f1+4
   ·exact .inr (.inr (.inl ⟨x.f1,hf,L2 A0e,.inr ej⟩))
   ·exact A01
 ·have hf:=(h.hx.l2 A0e).1;have h7:=h.hx.l7 A0e A0e;have F:=fw_poke h.W h7.2 A0f e;have hn:=h.hx.n h.W A0e;have h6:=h.hx.l6 A0e
  have h4:Fw_u s x.f1 4=x.n:=A06
  refine ⟨W,h.hx.go h.W,(go_ch' x s).1.trans h.cx,mt' (fun a ha e1=>.inl A0i),fun e1=>sf' A0j e1,fun j=>?_⟩;by_cases ej:j=x.n+3
  ·exact .inr (.inr (.inr ⟨x.f1,x.n,hf,L2 A0e,h7.2,by rw [b.nx _ hf];exact hn.symm,by rw [b.mt _ hf h6];exact h4,.inl ej⟩))
  ·exact A01
 ·have hf:=(h.hx.l2 A0e).1;have h7:=h.hx.l7 A0e A0e;have h9:=h.hx.l9 A0e A0e;have F:=fw_poke h.W h7.2 A0f e;have hn:=h.hx.n h.W A0e;have h6:=h.hx.l6 A0e
  have h4:Fw_u s x.f1 4=x.n:=A06
  refine ⟨W,h.hx.go h.W,(go_ch' x s).1.trans h.cx,mt' (fun a ha e1=>.inl A0i),fun e1=>sf' A0j e1,fun j=>?_⟩;by_cases ej:j=x.n+2
  ·exact .inr (.inr (.inr ⟨x.f1,x.n,hf,L2 A0e,h7.2,by rw [b.nx _ hf];exact hn.symm,by rw [b.mt _ hf h6];exact h4,.inr ⟨ej,by rw [b.ld _ h7.2 (by rw [h9];exact nz _ hf)];exact h9⟩⟩))
  ·exact A01
theorem MkI.done (h:MkI K k s0 x s) (e:x.ln=11):x.rl≠0∧K x.rl∧Fw_u s x.rl 2 % 2=1∧Fw_u s x.rl 3=x.rl∧Fw_u s x.rl 4≠0∧(x.rm≠0→K x.rm∧Fw_u s x.rm 2 % 2=1∧Fw_u s x.rm 3=x.rl∧Fw_u s x.rl 4=x.rm)∧Fw_u s k 3=x.rl:=by
 obtain ⟨e1,r⟩:=res_of h.hx h.W e;have hk:K k:=by rw [← h.cx];exact h.hx.ch
 have l0:x.rl≠0:=by have:=h.W.al _ r.l0;omega
 have e1':=e1;rw [h.cx] at e1';refine ⟨l0,r.l0,r.mk2,?_,r.mt,fun m0=>?_,e1'.symm⟩
 ·have:=h.sf (by rw [← e1'];exact l0);rw [← e1'] at this;exact this
 ·obtain ⟨k1,k2⟩:=r.m0.resolve_left m0
  have na:¬ Alone s x.rl:=fun a=>by have:=r.hm;unfold resM at this;rw [qf a] at this;exact m0 this
  have hm:x.rm=Fw_u s x.rl 2 / 2:=by have:=r.hm;unfold resM at this;rw [qd na] at this;exact this
  refine ⟨k1,?_,k2,?_⟩
  ·have:=res_mm h.hx h.W e (by rw [← e1];exact na);rw [← e1,← hm] at this;exact this
  ·rcases h.mt _ r.l0 with q | q | q
   ·exact absurd q r.mt
   ·exact absurd (.inl q) na
   ·rw [q,hm]
theorem MkI.word {S:Int} (h:MkI K k s0 x s) (e:x.ln=11) (inj:∀ a b f g,K a→K b→0≤f→f<S→0≤g→g<S→a+f=b+g→a=b∧f=g) (hS:7≤S) {a i:Int} (ha:K a) (hi:0≤i∧i<S) (hc:qw s.l (a+i)≠qw s0.l (a+i)) :
  (a=x.rl∧(i=2∨i=4))∨(a=k∧i=3)∨(Fw_u s x.rl 4=a∧(i=3∨(i=2∧x.rm=a))):=by
 have hk:K k:=by rw [← h.cx];exact h.hx.ch
 obtain ⟨d1,d2,d3,d4,d5,d6,d7⟩:=h.done e;obtain ⟨e1,r⟩:=res_of h.hx h.W e;rcases (h.cg (a+i)).resolve_left hc with q | ⟨l,q1,q2,q3⟩ | ⟨l,n,q1,q2,q3,q4,q5,q6⟩
 ·have:=inj a k i 3 ha hk hi.1 hi.2 A0e A0e q;exact .inr (.inl this)
 ·rw [d7] at q2;subst q2;left;rcases q3 with q3 | q3
  ·have:=inj a _ i 2 ha q1 hi.1 hi.2 A0e A0e q3;exact ⟨this.1,.inl this.2⟩
  ·have:=inj a _ i 4 ha q1 hi.1 hi.2 A0e A0e q3;exact ⟨this.1,.inr this.2⟩
 ·rw [d7] at q2;subst q2;right;right;rcases q6 with q6 | ⟨q6,q7⟩
  ·have:=inj a _ i 3 ha q3 hi.1 hi.2 A0e A0e q6;exact ⟨by rw [q5,this.1],.inl this.2⟩
  ·obtain ⟨ta,ti⟩:=inj a _ i 2 ha q3 hi.1 hi.2 A0e A0e q6;refine ⟨by rw [q5,ta],.inr ⟨ti,?_⟩⟩;have n0:n≠0:=by have:=h.W.al _ q3;omega
   have n1:n≠1:=by have:=h.W.al _ q3;omega
   have na:¬ Alone s x.rl:=by
    rintro (w | w | w)
    ·rw [q5] at w;exact n1 w
    ·rw [q4] at w;exact n0 w
    ·rw [q4] at w;exact w q7
   have:=r.hm;unfold resM at this;rw [qd na,q4] at this;rw [this,ta]
end
end Go.Proofs.YtleclbldlladmaaGreat.Le_u
namespace Go.Proofs.YtleclbldlladmaaGreat.Le_u
open Go.RowKit Go.Proofs.YtleclbldlladmaaGreat.Ar Go.Proofs.YtleclbldlladmaaGreat.Mx
set_option maxRecDepth 100000
def sK:St:=Pl.begun 1 3 100
def yK:Lx_u:=Lx_u.new 15 false
def sK8:St:=(runL 8 yK sK).2
def yK8:Lx_u:=(runL 8 yK sK).1
theorem endK:yK8.ln=11∧yK8.rl=15∧yK8.rm=0∧yK8.ra=0∧yK8.dw=true:=by decide +kernel
theorem runK:∀ k,k<8→(runL k yK sK).1.ln≠11:=by decide +kernel
theorem pkK:qw sK8.l 17=1∧qw sK8.l 18=15∧qw sK8.l 19=1:=by decide +kernel
theorem newK (w:World):Calls Tryz.prog 10 #[.agg #[.int .i64 1,.int .i64 3,.int .i64 100,.int .i64 1000],.int .i64 15,.bool false] w fun e w'=>∃ b,e = .returned (.pointer (some ⟨b,0,none⟩))∧w.heap.size≤b∧LeIs w' b yK∧Fr [] w w':=qbl ⟨1,3,100,1000⟩ 15 false w
def LeR (W:World) (b p q:Nat) (y:Lx_u) (s:St) (v:Value) (wr:World):Prop:=∃ k,v = .int .i64 (k:Nat)∧k<8∧LeIs wr b (runL k y s).1∧Ar wr p q (runL k y s).2∧Fr [b,p,q] W wr
set_option maxHeartbeats 3200000 in
theorem known_true (w:World):Calls Tryz.prog 5 #[] w fun e w'=>e = .returned (.bool true)∧Fr [] w w':=by
 have isE:=Er.isE;go_enter Tryz.func5,Tryz.ntmps5;go_wp2_with fail;refine (Pl.conf_any 1 3 100 _).mono ?_;rintro e w1 ⟨rfl,F1⟩;have G:=F1.alloc (.cells #[.int .i64 1,.int .i64 3,.int .i64 100,.int .i64 1000] 23);have oc:=Ob.new w1 23 #[.int .i64 1,.int .i64 3,.int .i64 100,.int .i64 1000];obtain ⟨c0,c1,c2,c3⟩:=Pl.yu oc;have hcw:=oc.lt;have hw1:=F1.size;clear F1;go_wp2_with fail;refine (Pl.make_yes 1 3 100 1000 A0f _).mono ?_;rintro e w2 ⟨p,q,rfl,hp,hq,A,F2⟩;rw [Yr] at hp hq;replace oc:=oc.up F2;have hcw2:=oc.lt;have hA2:=A.lt;replace G:=G.trans F2;have hG:=G.size;have A:Ar w2 p q sK:=A;clear F2 c0 c1 c2 c3;generalize hbc:w1.heap.size=bc at *;have nqc:bc≠q:=by omega
 have npc:bc≠p:=by omega
 have hwq:w.heap.size≤q:=by omega
 have hwp:w.heap.size≤p:=by omega
 have hwc:w.heap.size≤bc:=by omega
 obtain ⟨c0,c1,c2,c3⟩:=Pl.yu oc;go_wp2_with fail;refine qp A0g ?_;refine za [] w2 #[true,true,true,false,false] 3 2 rfl ?_;refine envT_pass [true,true,true,false,false] 0 (n:=85) (listed':=#[true,true,true,false,false]) rfl A0g A0g A0g A0g A0g rfl A0g (fun _ _ d _ _ h=>by cases d <;> exact h) ((Fr.refl _ w2).drew) ?_;apply qg;refine ⟨fun wf Ff=>?_,?_⟩
 ·have k0:=qb (Ff.cell c0 A0h);have k1:=qb (Ff.cell c1 A0h);have k2:=qb (Ff.cell c2 A0h);have k3:=qb (Ff.cell c3 A0h);simp only [sel];repeat (go_big_quiet_step ((go_at_call 22;exact Calls.in_ (Pl.X7 1 3 100 1000 A0f A0f _))))
  exact wpQuiet_nil rfl
 refine qy (k:=3) rfl A0g (fun w5 F5=>?_);have D5:=(Fr.refl [] w2).drew.trans F5;have A5:=A.kept D5 A0h A0h;have oc5:=oc.up D5;have hcl:=oc5.lt;have hA5:=A5.lt;have G5:=G.trans D5;clear F5 D5 c0 c1 c2 c3 A oc G hG hcw hcw2 hA2 hp hq hw1;rw [show (3+1+4+7:Int)=15 by decide];go_wp2_with fail;refine (newK _).mono ?_;rintro e w4 ⟨b,rfl,hb,D,F4⟩;have A:=A5.kept F4 A0h A0h;have oc:=oc5.up F4;have G:=G5.trans F4;have hG5:=G5.size;have HN:=q9 (show (b≠p∧b≠q)∧(bc≠b∧bc≠p∧bc≠q)∧(w.heap.size≤b∧w.heap.size≤p∧w.heap.size≤q∧w.heap.size≤bc) by omega);have HO:=q9 oc;have HG:=q9 G;clear F4 hcl hA5 hb oc G hbc nqc npc hwq hwp hwc A5 oc5 G5 hG5;go_wp2_with fail;go_loopw [5] (LeR w4 b p q yK sK) (fun v _=>20 - (intOf v).toNat);case atStart=>exact ⟨0,rfl,by omega,D,A,Fr.refl _ _⟩
 ·skip;obtain ⟨k,rfl,hk8,D2,A2,F2⟩:=hrel;have HS:=q9 (lstep_any (run_ln (y:=yK) (s:=sK) A0f k) D2 A2 HN.out.1);have HF:=q9 F2;have g1:decide ((k:Int)<20)=true:=by simp;omega
  clear D2 A2 F2 D A;go_wp2_with fail;refine HS.out.mono ?_;rintro e w6 ⟨rfl,D3,A3,F3⟩;have HF4:=q9 (HF.out.trans F3);clear HF F3;by_cases hk:k<7
  ·have g3:decide (((runL k yK sK).1.go (runL k yK sK).2).1.ln=11)=false:=by simp;exact runK (k+1) A0e
   go_wp2_with fail;go_roundw;case rel=>exact ⟨k+1,by simp,by omega,D3,A3,HF4.out⟩
   case measure=>simp [intOf];omega
  ·obtain rfl:k=7:=by omega
   have g3:decide (((runL 7 yK sK).1.go (runL 7 yK sK).2).1.ln=11)=true:=by simp;exact endK.1
   have D4:LeIs w6 b yK8:=D3;have A4:Ar w6 p q sK8:=A3;have HA:=q9 A4;have HD:=q9 D4;have HV:=q9 (lchk_any D4);rw [endK.2.1,endK.2.2.1,endK.2.2.2.1] at HV;have HW:=q9 (ldrw_any D4);rw [endK.2.2.2.2] at HW;have o5:=HO.out.kept HF4.out (by simp;exact HN.out.2.1);have HG6:=q9 (HG.out.own HF4.out (by simp;exact ⟨HN.out.2.2.1,HN.out.2.2.2.1,HN.out.2.2.2.2.1⟩));obtain ⟨c0,c1,c2,c3⟩:=Pl.yu o5;clear D3 A3 HS D4 A4 HF4 o5 HG HO;go_wp2_with fail;refine HV.out.mono ?_;rintro e _ ⟨rfl,rfl⟩;go_wp2_with fail;refine (Pl.X7 1 3 100 1000 A0f A0f _).mono ?_;rintro e w7 ⟨rfl,F7⟩;have HW7:=q9 (ldrw_any (HD.out.up F7));rw [endK.2.2.2.2] at HW7;have HA7:=q9 (HA.out.kept F7 A0h A0h);have HG7:=q9 (HG6.out.trans F7);clear F7 HV HW HA HD HG6 c0 c1 c2 c3;rw [show (3+1+4+7:Int)=15 by decide];go_wp2_with fail;refine HW7.out.mono ?_;rintro e _ ⟨rfl,rfl⟩;go_wp2_with fail;refine (yx _ p q _ _ HA7.out).mono ?_;rintro e _ ⟨rfl,rfl⟩;rw [pkK.1];go_wp2_with fail;refine (yx _ p q _ _ HA7.out).mono ?_;rintro e _ ⟨rfl,rfl⟩;rw [pkK.2.1];go_wp2_with fail;refine (yx _ p q _ _ HA7.out).mono ?_;rintro e _ ⟨rfl,rfl⟩;rw [pkK.2.2];go_wp2_with fail;go_ret;exact ⟨rfl,HG7.out⟩
end Go.Proofs.YtleclbldlladmaaGreat.Le_u
