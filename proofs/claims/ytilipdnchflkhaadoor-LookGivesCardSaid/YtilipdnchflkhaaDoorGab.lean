/- Texts that this proof leans on, one behind the other: EnvL, Place, Word. -/
import Derived.Test.YtilipdnchflkhaaDoorGaa
import Derived.StillTail
set_option linter.unusedVariables false
set_option linter.unusedSimpArgs false
set_option maxRecDepth 100000
set_option maxHeartbeats 12800000
namespace Go.Proofs.YtilipdnchflkhaaDoor.Ar
open Go.RowKit
section
variable {P:Program} {ops:Array Oper} {Q:Exit→Act→World→Prop} {md:Region.Mode} {w0:World} {S:List Nat} {LA:Array Bool} {g:Nat}
def EnvL (P:Program) (md:Region.Mode) (ops:Array Oper) (Q:Exit→Act→World→Prop) (S:List Nat) (w0:World) (LA:Array Bool) (g:Nat):Nat→Array Bool→Act→World→Prop
 | 0,listed,a,w=>∀ w2,Fr [] w w2→listed=LA∧wpAny P md ops Q g LA a w2
 | f+1,listed,a,w=>∀ w2,Fr [] w w2→Region.ready md ops listed≠[] ∧
   ∀ i∈Region.ready md ops listed,wpOp P ops Q i (fun a' w'=>Fr S w0 w'∧EnvL P md ops Q S w0 LA g f (listed.setIfInBounds i true) a' w') a w2
theorem EnvL.more {f:Nat} {listed:Array Bool} {a:Act} {w w':World} (h:EnvL P md ops Q S w0 LA g f listed a w) (k:Fr [] w w'):EnvL P md ops Q S w0 LA g f listed a w':=by
 cases f with
 | zero=>exact fun w2 h2=>h w2 (k.trans h2)
 | succ f=>exact fun w2 h2=>h w2 (k.trans h2)
theorem EnvL.sound:∀ (f:Nat) (listed:Array Bool) (a:Act) (w:World),EnvL P md ops Q S w0 LA g f listed a w→wpAny P md ops Q (f+g) listed a w
 | 0,listed,a,w,h=>by obtain ⟨rfl,h1⟩:=h w (Fr.refl _ _);rw [Nat.zero_add];exact h1
 | f+1,_,_,w,h=>by
  rw [show f+1+g=(f+g)+1 by omega]
  exact ⟨fun h0=>absurd h0 (h w (Fr.refl _ _)).1,fun i hi=>wpOp_mono (fun a' w' hh=>EnvL.sound f _ a' w' hh.2) ((h w (Fr.refl _ _)).2 i hi)⟩
def waitB (md:Region.Mode) (ops:Array Oper) (LA:Array Bool) (i:Nat):Bool:=(List.range LA.size).all fun j=>LA.getD j true || Region.waitsFor md ops j i
theorem waitB_spec {i j:Nat} (h:waitB md ops LA i=true) (hj:LA.getD j true=false):∃ oj,ops[j]? = some oj∧∃ e∈oj.after,Region.binds md e=true∧e.on=i:=by
 unfold waitB at h
 have hlt:j<LA.size:=by
  rcases Nat.lt_or_ge j LA.size with h' | h'
  ·exact h'
  ·simp [Array.getElem?_eq_none h'] at hj
 have:=List.all_eq_true.1 h j (List.mem_range.2 hlt)
 rw [hj] at this
 exact Region.waitsFor_spec (by simpa using this)
theorem EnvL.first {i:Nat} {oi:Oper} {v:Value} (hi:ops[i]? = some oi) (hsel:Region.noSelect ops=true) (hLB:waitB md ops LA i=true)
  (hQ:∀ c a d v w,Q (.panic c) (a.put d v) w→Q (.panic c) a w):∀ (f:Nat) (listed:Array Bool) (a:Act) (w:World),
   (∀ j oj,ops[j]? = some oj→j≠i→listed.getD j true=false→(∀ e∈oj.after,Region.binds md e=true→e.on≠i)→oi.apart ops oj=true) →
   i∈Region.ready md ops listed→EnvY P ops S w0 oi v a→Fr S w0 w →
   EnvL P md ops Q S w0 LA g f (listed.setIfInBounds i true) (a.put oi.dst v) w→EnvL P md ops Q S w0 LA g (f+1) listed a w
 | f,listed,a,w,hfree,hr,hy,hw,H=>fun w2 h2=>by
  refine ⟨fun h=>(by rw [h] at hr;cases hr),fun j hj=>?_⟩
  by_cases hji:j=i
  ·subst hji;exact hy.wpOp hi (hw.then h2) fun w' hw'=>⟨(hw.then h2).then hw',H.more (h2.trans hw')⟩
  ·have hj':=ready_mono (i:=i) hj hji
   obtain ⟨hjun,oj,hoj,hall⟩:=mem_ready.1 hj
   have hnot:∀ e∈oj.after,Region.binds md e=true→e.on≠i:=fun e he hb heq=>by
    have g1:=hall e he hb
    have g0:=(mem_ready.1 hr).1
    rw [heq] at g1
    rcases Nat.lt_or_ge i listed.size with h' | h'
    ·simp [h'] at g0 g1;rw [g0] at g1;cases g1
    ·simp [Array.getElem?_eq_none h'] at g1
   cases f with
   | zero =>
    have hLA:=(H w2 h2).1
    rw [hLA] at hj'
    obtain ⟨ok,hok,e,he,hb,hon⟩:=waitB_spec hLB (mem_ready.1 hj').1
    rw [hoj] at hok
    cases hok
    exact absurd hon (hnot e he hb)
   | succ f =>
    have h1:=(H w2 h2).2 j hj'
    have g2:=hy.other hoj (hfree j oj hoj hji hjun hnot) (fun cs b=>Region.noSelect_spec hsel i oi cs b hi) (fun cs b=>Region.noSelect_spec hsel j oj cs b hoj) hQ h1
    have hfree':∀ k ok,ops[k]? = some ok→k≠i→(listed.setIfInBounds j true).getD k true=false →
      (∀ e∈ok.after,Region.binds md e=true→e.on≠i)→oi.apart ops ok=true:=fun k ok hk hki hun hno=>by
     refine hfree k ok hk hki ?_ hno
     by_cases hjk:j=k
     ·subst hjk;exact hjun
     ·rw [getD_set_ne true hjk] at hun;exact hun
    refine wpOp_mono (fun a' w' h3=>⟨h3.2.1,EnvL.first hi hsel hLB hQ f (listed.setIfInBounds j true) a' w' hfree' (ready_mono hr (Ne.symm hji)) h3.1 h3.2.1 ?_⟩) g2
    rw [Array.setIfInBounds_comm _ _ hji]
    exact h3.2.2
def waitsB (md:Region.Mode) (ops:Array Oper) (LA:Array Bool):Nat→List Bool→Bool
 | k,true :: m=>waitB md ops LA k && waitsB md ops LA (k+1) m
 | k,false :: m=>waitsB md ops LA (k+1) m
 | _,[]=>true
theorem envL_pass_list (hs:Region.noSelect ops=true) (hQ:∀ c a d v w,Q (.panic c) (a.put d v) w→Q (.panic c) a w) {aE:Act} {n f:Nat} :
  ∀ (m:List Bool) (L:List Oper) (k:Nat) (listed:Array Bool) (a:Act) (w:World),(∀ j,L[j]? = ops[k+j]?)→passB md ops k m listed=true→waitsB md ops LA k m=true→dstB n (sel m L)=true→a.tmps.size=n→Fr S w0 w →
   (∀ wf,Fr S w0 wf→wpQuiet P ops (fun w'=>∃ s:In wf,w'=s.at_) (fun a'=>a'=aE) (sel m L) a)→EnvL P md ops Q S w0 LA g f (markB k m listed) aE w→EnvL P md ops Q S w0 LA g (f+countB m) listed a w
 | [],L,k,listed,a,w,_,_,_,_,_,_,h,H=>by
  have h0:a=aE:=by have:=h w0 (Fr.refl _ _);cases L <;> exact this
  subst h0;exact H
 | false :: m,[],k,listed,a,w,hL,hB,hW,hd,hn,hw,h,H=>envL_pass_list hs hQ m [] (k+1) listed a w (fun j=>by have:=hL (j+1);simpa [Nat.add_assoc,Nat.add_comm 1 j] using this) hB hW (by cases m with | nil=>rfl | cons b m=>cases b <;> rfl) hn hw (fun wf hf=>by have:=h wf hf;cases m with | nil=>exact this | cons b m=>cases b <;> exact this) H
 | false :: m,o :: L,k,listed,a,w,hL,hB,hW,hd,hn,hw,h,H=>envL_pass_list hs hQ m L (k+1) listed a w (fun j=>by have:=hL (j+1);simpa [Nat.add_assoc,Nat.add_comm 1 j] using this) hB hW hd hn hw h H
 | true :: m,[],k,listed,a,w,hL,hB,_,_,_,_,_,_=>by
  exfalso
  simp only [passB,Bool.and_eq_true] at hB
  have hr:k∈Region.ready md ops listed:=by simpa using hB.1.1
  obtain ⟨_,o,ho,_⟩:=mem_ready.1 hr
  have:=hL 0
  simp [ho] at this
 | true :: m,o :: L,k,listed,a,w,hL,hB,hW,hd,hn,hw,h,H=>by
  simp only [waitsB,Bool.and_eq_true] at hW
  obtain ⟨hW1,hW2⟩:=hW
  have h0:ops[k]? = some o:=by simpa using (hL 0).symm
  simp only [passB,Bool.and_eq_true] at hB
  obtain ⟨⟨hr,hf⟩,hB'⟩:=hB
  simp only [sel,dstB,Bool.and_eq_true] at hd
  obtain ⟨hd1,hd2⟩:=hd
  -- the value,and what follows
  have key:∃ v,EnvY P ops S w0 o v a∧∀ wf,Fr S w0 wf→wpQuiet P ops (fun w'=>∃ s:In wf,w'=s.at_) (fun a'=>a'=aE) (sel m L) (a.put o.dst v):=by
   by_cases hw1:Region.wanted o (yielded ops a.tmps)=true
   ·have h':∀ wf,Fr S w0 wf→o.quiet P a (fun w'=>∃ s:In wf,w'=s.at_) (wpQuiet P ops (fun w'=>∃ s:In wf,w'=s.at_) (fun a'=>a'=aE) (sel m L)):=fun wf hf=>by
     have:=h wf hf
     simp only [sel,wpQuiet] at this
     rwa [if_pos hw1] at this
    obtain ⟨v,_,hv2⟩:=h' w0 (Fr.refl _ _)
    have same:∀ wf,Fr S w0 wf→∀ u,wpQuiet P ops (fun w'=>∃ s:In wf,w'=s.at_) (fun a'=>a'=aE) (sel m L) (a.put o.dst u)→o.dst=none∨u=v:=fun wf hf u hu=>by
     cases hod:o.dst with
     | none=>exact .inl rfl
     | some d =>
      rw [hod] at hd1 hu hv2
      simp only [Bool.and_eq_true,decide_eq_true_eq] at hd1
      have e1:=quiet_keeps (sel m L) _ hd1.2 hu
      have e2:=quiet_keeps (sel m L) _ hd1.2 hv2
      have hlt:d<a.tmps.size:=by rw [hn];exact hd1.1
      rw [e1] at e2
      simp [Act.put,hlt] at e2
      exact .inr e2
    refine ⟨v,.inl ⟨hw1,fun wf hf=>?_⟩,fun wf hf=>?_⟩
    ·obtain ⟨u,hu1,hu2⟩:=h' wf hf
     refine ⟨u,?_,same wf hf u hu2⟩
     have hq:=hu1 wf ⟨⟨wf,Fr.refl _ _⟩,rfl⟩
     unfold Oper.quietAt at hq ⊢
     generalize (execOp a.eval o).run P wf=r at *
     cases r with
     | ok x w' =>
      cases x <;> simp only [Oper.quietUpon] at hq ⊢
      case value=>exact hq
      case skip=>exact hq
      case enter g args=>exact ⟨hq.1,hq.2.mono fun e w'' ⟨he,s,hs⟩=>⟨he,hs ▸ s.fr⟩⟩
     | halt x w'=>exact hq
    ·obtain ⟨u,_,hu2⟩:=h' wf hf
     rw [← put_same (same wf hf u hu2)];exact hu2
   ·refine ⟨undef,.inr ⟨by simpa using hw1,rfl⟩,fun wf hf=>?_⟩
    have:=h wf hf
    simp only [sel,wpQuiet] at this
    rwa [if_neg hw1] at this
  obtain ⟨v,hy,hK⟩:=key
  exact EnvL.first h0 hs hW1 hQ (f+countB m) listed a w (Region.free_spec h0 hf) (by simpa using hr) hy hw
   (envL_pass_list hs hQ m L (k+1) _ _ w (fun j=>by have:=hL (j+1);simpa [Nat.add_assoc,Nat.add_comm 1 j] using this) hB' hW2 hd2 (by rw [size_put];exact hn) hw hK H)
end
section
variable {P:Program} {l:List Oper} {Q:Exit→Act→World→Prop} {w0:World} {S:List Nat} {LA:Array Bool} {g:Nat}
theorem envL_pass (m:List Bool) (f:Nat) {g' n:Nat} {listed listed':Array Bool} {a:Act} {w:World} (hf:f+countB m=g') (hs:Region.noSelect l.toArray=true) (hB:passB .any l.toArray 0 m listed=true) (hW:waitsB .any l.toArray LA 0 m=true)
  (hd:dstB n (sel m l)=true) (hn:a.tmps.size=n) (hl:markB 0 m listed=listed') (hQ:∀ c a d v w,Q (.panic c) (a.put d v) w→Q (.panic c) a w) (hw:Fr S w0 w)
  (h:∃ aE,(∀ wf,Fr S w0 wf→wpQuiet P l.toArray (fun w'=>∃ s:In wf,w'=s.at_) (fun a'=>a'=aE) (sel m l) a)∧EnvL P .any l.toArray Q S w0 LA g f listed' aE w):EnvL P .any l.toArray Q S w0 LA g g' listed a w:=by
 subst hf;subst hl
 obtain ⟨aE,h,H⟩:=h
 exact envL_pass_list hs hQ m l 0 listed a w (by simp) hB hW hd hn hw h H
theorem lpq (m:List Bool) (f:Nat) {g' n:Nat} {listed listed':Array Bool} {a:Act} {w:World} (hw:Fr S w0 w) (h:∃ aE,(∀ wf,Fr S w0 wf→wpQuiet P l.toArray (fun w'=>∃ s:In wf,w'=s.at_) (fun a'=>a'=aE) (sel m l) a)∧EnvL P .any l.toArray Q S w0 LA g f listed' aE w) (hn:a.tmps.size=n:=by exact rfl) (hl:markB 0 m listed=listed':=by exact rfl) (hf:f+countB m=g':=by exact rfl) (hs:Region.noSelect l.toArray=true:=by kernel_rfl) (hB:passB .any l.toArray 0 m listed=true:=by kernel_rfl) (hW:waitsB .any l.toArray LA 0 m=true:=by kernel_rfl) (hd:dstB n (sel m l)=true:=by kernel_rfl) (hQ:∀ c a d v w,Q (.panic c) (a.put d v) w→Q (.panic c) a w:=by intro _ _ d _ _ h;cases d <;> exact h):EnvL P .any l.toArray Q S w0 LA g g' listed a w:=envL_pass m f hf hs hB hW hd hn hl hQ hw h
theorem envL_one (i:Nat) {o:Oper} {f:Nat} {listed listed':Array Bool} {a:Act} {w:World} (hr:Region.ready .any l.toArray listed=[i]) (ho:l[i]? = some o) (hl:listed.setIfInBounds i true=listed')
  (h:∀ w2,Fr [] w w2→wpList P l.toArray (Nx Q (fun a' w'=>Fr S w0 w'∧EnvL P .any l.toArray Q S w0 LA g f listed' a' w')) [o] a w2):EnvL P .any l.toArray Q S w0 LA g (f+1) listed a w:=by
 subst hl
 intro w2 h2
 refine ⟨fun h0=>(by rw [hr] at h0;cases h0),fun j hj=>?_⟩
 rw [hr] at hj
 simp only [List.mem_singleton] at hj
 subst hj
 exact wpOp_of_list ho letsOut_nx (h w2 h2)
theorem loq (i:Nat) {o:Oper} {f:Nat} {listed listed':Array Bool} {a:Act} {w:World} (h:∀ w2,Fr [] w w2→wpList P l.toArray (Nx Q (fun a' w'=>Fr S w0 w'∧EnvL P .any l.toArray Q S w0 LA g f listed' a' w')) [o] a w2) (hl:listed.setIfInBounds i true=listed':=by exact rfl) (hr:Region.ready .any l.toArray listed=[i]:=by kernel_rfl) (ho:l[i]? = some o:=by exact rfl):EnvL P .any l.toArray Q S w0 LA g (f+1) listed a w:=envL_one i hr ho hl h
theorem envL_tail {k:Nat} {a:Act} {w:World} (hg:(l.drop k).length=g) (hB:Region.seqB .any l.toArray g k LA=true) (h:∀ w2,Fr [] w w2→wpList P l.toArray Q (l.drop k) a w2):EnvL P .any l.toArray Q S w0 LA g 0 LA a w:=by
 intro w2 h2
 subst hg
 exact ⟨rfl,wpAny_of_seq (md:=.any) (l.drop k) k LA a w2 (fun j=>by simp [List.getElem?_drop]) hB (h w2 h2)⟩
theorem any_envL {n:Nat} {listed:Array Bool} {a:Act} {w:World} (S:List Nat) (w0:World) (LA:Array Bool) (f g:Nat) (hl:f+g=n) (h:EnvL P .any l.toArray Q S w0 LA g f listed a w):wpAny P .any l.toArray Q n listed a w:=by
 subst hl;exact EnvL.sound _ _ _ _ h
theorem wp_region_free {id:Nat} {a:Act} {w:World} (hm:P.follows .mixedOrders=true) (h:wpAny P .any l.toArray Q l.length (Array.replicate l.length false) a w.drew):(Code.region id l.toArray true).wp P Q a w :=
 wp_region_any hm (by simpa using h)
end
end Go.Proofs.YtilipdnchflkhaaDoor.Ar
namespace Go.Proofs.YtilipdnchflkhaaDoor.Pl
open Go.RowKit Go.Proofs.YtilipdnchflkhaaDoor.Ar
theorem conf_any (t c wd:Int) (w:World) :
  Calls Tryd.prog 5 #[.int .i64 t,.int .i64 c,.int .i64 wd] w fun e w'=>e = .returned (.agg #[.int .i64 t,.int .i64 c,.int .i64 wd,.int .i64 1000])∧Fr [] w w':=by
 go_enter Tryd.func5,Tryd.ntmps5
 go_wp2
 exact bodyPost_ret (v:=.agg #[.int .i64 t,.int .i64 c,.int .i64 wd,.int .i64 1000]) (by simp [results,Tryd.results5,go_sem]) rfl ⟨rfl,(Fr.refl _ _).alloc _⟩
theorem size_any (t c wd v:Int) (h1:1≤c) (h2:c≤16) (w:World) :
  Calls Tryd.prog 45 #[.agg #[.int .i64 t,.int .i64 c,.int .i64 wd,.int .i64 v]] w fun e w'=>e = .returned (.int .i64 (7+3 * c))∧Fr [] w w':=by
 go_enter Tryd.func45,Tryd.ntmps45
 go_wp2
 go_ret
 exact ⟨rfl,(Fr.refl _ _).alloc _⟩
theorem psa_any (t:Int) (h1:0≤t) (h2:t≤8) (w:World) :
  Calls Tryd.prog 46 #[.int .i64 t] w fun e w'=>e = .returned (.int .i64 (3+t))∧w=w':=by
 go_enter Tryd.func46,Tryd.ntmps46
 go_wp2
 go_ret
 exact ⟨rfl,rfl⟩
theorem firstHint_any (t c wd v:Int) (h1:1≤t) (h2:t≤8) (w:World) :
  Calls Tryd.prog 31 #[.agg #[.int .i64 t,.int .i64 c,.int .i64 wd,.int .i64 v]] w fun e w'=>e = .returned (.int .i64 (3+t))∧Fr [] w w':=by
 go_enter Tryd.func31,Tryd.ntmps31
 go_wp2_with (go_at_call 46;refine (psa_any _ (by omega) h2 _).mono ?_;rintro e w' ⟨rfl,rfl⟩)
 go_ret
 exact ⟨rfl,(Fr.refl _ _).alloc _⟩
theorem head_any (t c wd v:Int) (h1:1≤t) (h2:t≤8) (w:World) :
  Calls Tryd.prog 20 #[.agg #[.int .i64 t,.int .i64 c,.int .i64 wd,.int .i64 v]] w fun e w'=>e = .returned (.int .i64 (3+t+4))∧Fr [] w w':=by
 go_enter Tryd.func20,Tryd.ntmps20
 go_wp2_with fail
 refine (firstHint_any t c wd v h1 h2 _).mono ?_;rintro e w1 ⟨rfl,F1⟩
 have G:=((Fr.refl [] w).alloc _).trans F1
 clear F1
 go_wp2
 go_ret
 exact ⟨rfl,G⟩
theorem first_any (t c wd v:Int) (h1:1≤t) (h2:t≤8) (w:World) :
  Calls Tryd.prog 7 #[.agg #[.int .i64 t,.int .i64 c,.int .i64 wd,.int .i64 v]] w fun e w'=>e = .returned (.int .i64 (3+t+4+7))∧Fr [] w w':=by
 go_enter Tryd.func7,Tryd.ntmps7
 go_wp2_with fail
 refine (head_any t c wd v h1 h2 _).mono ?_;rintro e w1 ⟨rfl,F1⟩
 have G:=((Fr.refl [] w).alloc _).trans F1
 clear F1
 go_wp2
 go_ret
 exact ⟨rfl,G⟩
theorem cells4 {w:World} {b:Nat} {t:TypeId} {x0 x1 x2 x3:Value} (h:w.heap[b]? = some (.cells #[x0,x1,x2,x3] t (0,0))) :
  w.cell? ⟨b,0,none⟩=some x0∧w.cell? ⟨b,1,none⟩=some x1∧w.cell? ⟨b,2,none⟩=some x2∧w.cell? ⟨b,3,none⟩=some x3 :=
 ⟨by rw [cell_of_row _ _ _ _ _ _ h];rfl,by rw [cell_of_row _ _ _ _ _ _ h];rfl,by rw [cell_of_row _ _ _ _ _ _ h];rfl,by rw [cell_of_row _ _ _ _ _ _ h];rfl⟩
theorem top_any (t c wd v:Int) (h1:1≤t) (h2:t≤8) (h3:1≤c) (h4:c≤16) (w:World) :
  Calls Tryd.prog 30 #[.agg #[.int .i64 t,.int .i64 c,.int .i64 wd,.int .i64 v]] w fun e w'=>e = .returned (.int .i64 (21+t+3 * c))∧Fr [] w w':=by
 go_enter Tryd.func30,Tryd.ntmps30
 go_wp2_with fail
 obtain ⟨c0,c1,c2,c3⟩:=cells4 (Go.heap_alloc_new w (.cells #[.int .i64 t,.int .i64 c,.int .i64 wd,.int .i64 v] 26))
 have k0:=In.cell c0
 have k1:=In.cell c1
 have k2:=In.cell c2
 have k3:=In.cell c3
 clear c0 c1 c2 c3
 refine wiq ?_
 repeat (go_big_quiet_step ((first | (go_at_call 7;exact Calls.in_ (first_any _ _ _ _ h1 h2 _)) | (go_at_call 45;exact Calls.in_ (size_any _ _ _ _ h3 h4 _)))))
 refine wpQuiet_nil ?_
 intro w1 F1
 go_wp2
 go_ret
 exact ⟨ret_eq (by omega),((Fr.refl [] w).alloc _).trans F1⟩
theorem state_any (a i:Int) (h1:0≤a) (h2:a≤1000000) (h3:0≤i) (h4:i≤1000) (w:World) :
  Calls Tryd.prog 9 #[.int .i64 a,.int .i64 i] w fun e w'=>e = .returned (.int .i64 (a+7+3 * i))∧w=w':=by
 go_enter Tryd.func9,Tryd.ntmps9
 go_wp2
 go_ret
 exact ⟨rfl,rfl⟩
theorem within_true (n a b:Int) (h1:a≤n) (h2:n≤b) (w:World) :
  Calls Tryd.prog 29 #[.int .i64 n,.int .i64 a,.int .i64 b] w fun e w'=>e = .returned (.bool true)∧w=w':=by
 go_enter Tryd.func29,Tryd.ntmps29
 go_wp2
 go_ret
 exact ⟨rfl,rfl⟩
theorem within_false (n a b:Int) (h:n<a∨b<n) (w:World) :
  Calls Tryd.prog 29 #[.int .i64 n,.int .i64 a,.int .i64 b] w fun e w'=>e = .returned (.bool false)∧w=w':=by
 by_cases h1:n<a
 ·clear h
  go_enter Tryd.func29,Tryd.ntmps29
  go_wp2
  go_ret
  exact ⟨rfl,rfl⟩
 ·have h2:b<n:=by omega
  have h3:a≤n:=by omega
  have hf:decide (n≤b)=false:=by simp;omega
  clear h h1 h2
  go_enter Tryd.func29,Tryd.ntmps29
  go_wp2
  go_ret
  exact ⟨rfl,rfl⟩
def errv (n:Int):Value:=if n=0 then .nilIface else .iface 71 (.int .i64 n)
def form (t c wd v:Int):Bool:=decide (1≤t) && decide (t≤8) && decide (t+2≤c) && decide (c≤16) && decide (1≤v) && decide (v≤1048576) && decide (1≤wd) && decide (wd≤20000)
def code (t c wd v:Int):Int:=if form t c wd v=true then (if 21+t+3 * c≤wd then 0 else 14) else 10
theorem form_iff {t c wd v:Int}:form t c wd v=true↔(1≤t∧t≤8∧t+2≤c∧c≤16∧1≤v∧v≤1048576∧1≤wd∧wd≤20000):=by
 simp only [form,Bool.and_eq_true,decide_eq_true_eq,and_assoc]
theorem is_form (t c wd v:Int) (h:t<1∨8<t∨c<t+2∨16<c∨v<1∨1048576<v∨wd<1∨20000<wd) (w:World) :
  Calls Tryd.prog 17 #[.agg #[.int .i64 t,.int .i64 c,.int .i64 wd,.int .i64 v]] w fun e w'=>e = .returned (.iface 71 (.int .i64 10))∧Fr [] w w':=by
 by_cases hh:t<1∨8<t
 ·clear h
  have F:=within_false t 1 8 hh
  have H:=Lib.hid F
  clear F hh
  go_enter Tryd.func17,Tryd.ntmps17
  go_wp2_with fail
  refine (H.out _).mono ?_;rintro e w1 ⟨rfl,rfl⟩
  go_wp2
  go_ret
  exact ⟨rfl,(Fr.refl _ _).alloc _⟩
 ·have T:=Lib.hid (within_true t 1 8 (by omega) (by omega))
  have t1:1≤t:=by omega
  have t2:t≤8:=by omega
  by_cases hc:c<t+2∨16<c
  ·have H:=Lib.hid (within_false c (t+2) 16 hc)
   clear h hh hc
   go_enter Tryd.func17,Tryd.ntmps17
   go_wp2_with fail
   refine (T.out _).mono ?_;rintro e w1 ⟨rfl,rfl⟩
   go_wp2_with fail
   refine (H.out _).mono ?_;rintro e w1 ⟨rfl,rfl⟩
   go_wp2
   go_ret
   exact ⟨rfl,(Fr.refl _ _).alloc _⟩
  ·have C:=Lib.hid (within_true c (t+2) 16 (by omega) (by omega))
   by_cases hv:v<1∨1048576<v
   ·have H:=Lib.hid (within_false v 1 1048576 hv)
    clear h hh hc hv
    go_enter Tryd.func17,Tryd.ntmps17
    go_wp2_with fail
    refine (T.out _).mono ?_;rintro e w1 ⟨rfl,rfl⟩
    go_wp2_with fail
    refine (C.out _).mono ?_;rintro e w1 ⟨rfl,rfl⟩
    go_wp2_with fail
    refine (H.out _).mono ?_;rintro e w1 ⟨rfl,rfl⟩
    go_wp2
    go_ret
    exact ⟨rfl,(Fr.refl _ _).alloc _⟩
   ·have V:=Lib.hid (within_true v 1 1048576 (by omega) (by omega))
    have H:=Lib.hid (within_false wd 1 20000 (by omega))
    clear h hh hc hv
    go_enter Tryd.func17,Tryd.ntmps17
    go_wp2_with fail
    refine (T.out _).mono ?_;rintro e w1 ⟨rfl,rfl⟩
    go_wp2_with fail
    refine (C.out _).mono ?_;rintro e w1 ⟨rfl,rfl⟩
    go_wp2_with fail
    refine (V.out _).mono ?_;rintro e w1 ⟨rfl,rfl⟩
    go_wp2_with fail
    refine (H.out _).mono ?_;rintro e w1 ⟨rfl,rfl⟩
    go_wp2
    go_ret
    exact ⟨rfl,(Fr.refl _ _).alloc _⟩
theorem is_well (t c wd v:Int) (h:form t c wd v=true) (w:World) :
  Calls Tryd.prog 17 #[.agg #[.int .i64 t,.int .i64 c,.int .i64 wd,.int .i64 v]] w fun e w'=>e = .returned (errv (if 21+t+3 * c≤wd then 0 else 14))∧Fr [] w w':=by
 obtain ⟨t1,t2,c1,c2,v1,v2,w1,w2⟩:=form_iff.1 h
 have T:=Lib.hid (within_true t 1 8 t1 t2)
 have C:=Lib.hid (within_true c (t+2) 16 c1 c2)
 have V:=Lib.hid (within_true v 1 1048576 v1 v2)
 have W:=Lib.hid (within_true wd 1 20000 w1 w2)
 have TP:=Lib.hid (top_any t c wd v t1 t2 (by omega) c2)
 clear h c1
 by_cases hf:21+t+3 * c≤wd
 all_goals
  first | rw [if_pos hf] | rw [if_neg hf]
  go_enter Tryd.func17,Tryd.ntmps17
  go_wp2_with fail
  refine (T.out _).mono ?_;rintro e w1 ⟨rfl,rfl⟩
  go_wp2_with fail
  refine (C.out _).mono ?_;rintro e w1 ⟨rfl,rfl⟩
  go_wp2_with fail
  refine (V.out _).mono ?_;rintro e w1 ⟨rfl,rfl⟩
  go_wp2_with fail
  refine (W.out _).mono ?_;rintro e w1 ⟨rfl,rfl⟩
  go_wp2_with fail
  obtain ⟨c0,c1,c2,c3⟩:=cells4 (Go.heap_alloc_new w (.cells #[.int .i64 t,.int .i64 c,.int .i64 wd,.int .i64 v] 26))
  have k0:=In.cell c0
  have k1:=In.cell c1
  have k2:=In.cell c2
  have k3:=In.cell c3
  clear c0 c1 c2 c3
  refine wiq ?_
  repeat (go_big_quiet_step ((go_at_call 30;exact Calls.in_ (TP.out _))))
  refine wpQuiet_nil ?_
  intro w1 F1
  have G:=((Fr.refl [] w).alloc _).trans F1
  clear F1
  go_wp2
  go_ret
  exact ⟨rfl,G⟩
theorem is_any (t c wd v:Int) (w:World) :
  Calls Tryd.prog 17 #[.agg #[.int .i64 t,.int .i64 c,.int .i64 wd,.int .i64 v]] w fun e w'=>e = .returned (errv (code t c wd v))∧Fr [] w w':=by
 cases h:form t c wd v
 ·have hn:¬ form t c wd v=true:=by simp [h]
  rw [form_iff] at hn
  rw [code,if_neg (by simp [h])]
  exact is_form t c wd v (by omega) w
 ·rw [code,if_pos h];exact is_well t c wd v h w
end Go.Proofs.YtilipdnchflkhaaDoor.Pl
namespace Go.Proofs.YtilipdnchflkhaaDoor.Word
open Go.RowKit
def Dr (w w':World):Prop:=∃ m,w'=w.drewN m
def Tab (w:World):Prop :=
 w.cell? ⟨0,0,none⟩=some (.int .i64 0)∧w.cell? ⟨0,1,none⟩=some (.int .i64 1073741824) ∧
 w.cell? ⟨0,2,none⟩=some (.int .i64 0)∧w.cell? ⟨0,3,none⟩=some (.int .i64 1073741824) ∧
 w.cell? ⟨0,4,none⟩=some (.int .i64 0)∧w.cell? ⟨0,5,none⟩=some (.int .i64 16777212) ∧
 w.cell? ⟨0,6,none⟩=some (.int .i64 0)∧w.cell? ⟨0,7,none⟩=some (.int .i64 16777212) ∧
 w.cell? ⟨0,8,none⟩=some (.int .i64 0)∧w.cell? ⟨0,9,none⟩=some (.int .i64 1048576) ∧
 w.cell? ⟨0,10,none⟩=some (.int .i64 (-1))∧w.cell? ⟨0,11,none⟩=some (.int .i64 1048576)
def heldI (lo hi n:Int):Int:=if hi<(if n<lo then lo else n) then hi else (if n<lo then lo else n)
theorem heldI_bd {lo hi:Int} (n:Int) (a:lo≤hi):lo≤heldI lo hi n∧heldI lo hi n≤hi:=by unfold heldI;split <;> split <;> omega
theorem ret_dr {k:IntKind} {a b:Int} {w w':World} (h:a=b) (d:Dr w w'):Ending.returned (.int k a) = .returned (.int k b)∧Dr w w':=⟨by rw [h],d⟩
/-! ### held: each row of the table -/
theorem held0 (n:Int) (w:World) (t:Tab w):Calls Tryd.prog 49 #[.int .i64 n,.int .i64 0] w fun e w'=>e = .returned (.int .i64 (heldI 0 1073741824 n))∧Dr w w':=by
 obtain ⟨h0,h1,-⟩:=t
 go_enter Tryd.func49,Tryd.ntmps49
 go_wp2
 go_quiet (fail)
 go_wp2
 all_goals go_ret
 all_goals exact ret_dr (by unfold heldI;repeat (first | rw [if_pos (by assumption)] | rw [if_neg (by omega)])) ⟨_,rfl⟩
theorem held2 (n:Int) (w:World) (t:Tab w):Calls Tryd.prog 49 #[.int .i64 n,.int .i64 2] w fun e w'=>e = .returned (.int .i64 (heldI 0 16777212 n))∧Dr w w':=by
 obtain ⟨-,-,-,-,h0,h1,-⟩:=t
 go_enter Tryd.func49,Tryd.ntmps49
 go_wp2
 go_quiet (fail)
 go_wp2
 all_goals go_ret
 all_goals exact ret_dr (by unfold heldI;repeat (first | rw [if_pos (by assumption)] | rw [if_neg (by omega)])) ⟨_,rfl⟩
/-! ### join,upper,lower -/
/-! ### The face -/
def stateI (v:Int):Int:=heldI 0 16777212 v+3
theorem state_any (v:Int) (w:World) (t:Tab w):Calls Tryd.prog 37 #[.int .i64 v] w fun e w'=>e = .returned (.int .i64 (stateI v))∧Dr w w':=by
 have hb:=heldI_bd (lo:=0) (hi:=16777212) v (by decide)
 go_enter Tryd.func37,Tryd.ntmps37
 go_wp2_with fail
 refine (held2 _ _ t).mono ?_
 rintro e w' ⟨rfl,m,rfl⟩
 go_wp2
 go_ret
 exact ret_dr rfl ⟨_,rfl⟩
end Go.Proofs.YtilipdnchflkhaaDoor.Word
