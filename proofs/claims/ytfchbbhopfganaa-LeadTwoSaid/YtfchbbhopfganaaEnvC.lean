/- EnvL's laws for whatever is kept of worlds: a region that stores to a block that it also reads, and in which not all waits for all that it reads. -/
import Derived.Test.YtfchbbhopfganaaEnvL
namespace Go.Proofs.Ytfchbbhopfganaa.Ar
open Go.RowKit
section
variable {P : Program} {ops : Array Oper} {Q : Exit → Act → World → Prop} {md : Region.Mode} {C : World → Prop} {LA : Array Bool} {g : Nat}
def EnvYC (P : Program) (ops : Array Oper) (C : World → Prop) (o : Oper) (v : Value) (a : Act) : Prop :=
  (Region.wanted o (yielded ops a.tmps) = true ∧ ∀ w, C w → ∃ u, o.quietAt P a (fun w' => Fr [] w w') w u ∧ (o.dst = none ∨ u = v)) ∨
  (Region.wanted o (yielded ops a.tmps) = false ∧ v = undef)
theorem EnvYC.wpOp {i : Nat} {o : Oper} {v : Value} {a : Act} (hi : ops[i]? = some o) (hy : EnvYC P ops C o v a) {K : Act → World → Prop} {w : World} (hw : C w)
    (h : ∀ w', Fr [] w w' → K (a.put o.dst v) w') : wpOp P ops Q i K a w := by
  unfold Go.wpOp
  simp only [hi]
  rcases hy with ⟨hw1, hv⟩ | ⟨hw1, rfl⟩
  · simp only [hw1, if_true]
    obtain ⟨u, hu, he⟩ := hv w hw
    exact .inl (wp_of_quietAt hu fun w' hw' => by rw [put_same he]; exact h w' hw')
  · simp only [hw1, Bool.false_eq_true, if_false]; exact h w (Fr.refl _ _)
theorem EnvYC.of_same {o : Oper} {v : Value} {a a' : Act} (hy : EnvYC P ops C o v a) (he : execOp a'.eval o = execOp a.eval o)
    (hw : Region.wanted o (yielded ops a'.tmps) = Region.wanted o (yielded ops a.tmps)) : EnvYC P ops C o v a' := by
  unfold EnvYC Oper.quietAt at *
  rw [he, hw]; exact hy
/-- What another operation does is the same with this one's value in its slot, or not. -/
theorem EnvYC.other {j : Nat} {oi oj : Oper} {v : Value} (hj : ops[j]? = some oj) (hap : oi.apart ops oj = true)
    (hsi : ∀ cs b, oi.op ≠ .select cs b) (hsj : ∀ cs b, oj.op ≠ .select cs b)
    (hQ : ∀ c a d v w, Q (.panic c) (a.put d v) w → Q (.panic c) a w) {K : Act → World → Prop} {a : Act} {w : World}
    (hy : EnvYC P ops C oi v a) (h : Go.wpOp P ops Q j K (a.put oi.dst v) w) :
    Go.wpOp P ops Q j (fun a' w' => EnvYC P ops C oi v a' ∧ K (a'.put oi.dst v) w') a w := by
  obtain ⟨h1, h2, h3⟩ := Oper.apart_spec hap
  have keep : ∀ (a : Act), EnvYC P ops C oi v a → ∀ u, EnvYC P ops C oi v (a.put oj.dst u) := fun a hy u =>
    hy.of_same (execOp_put oi hsi a oj.dst u h3) (wanted_put oi a oj.dst u h3)
  have keepD : ∀ d, EnvYC P ops C oi v { a with defers := d :: a.defers } := fun d => hy.of_same rfl rfl
  unfold Go.wpOp at *
  simp only [hj] at *
  rw [wanted_put oj a oi.dst v h1] at h
  by_cases hw : Region.wanted oj (yielded ops a.tmps) = true
  · rw [if_pos hw] at h ⊢
    refine h.imp (fun h => ?_) (fun ⟨hasks, hlets⟩ => ⟨by unfold Oper.asks at *; rw [execOp_put oj hsj a oi.dst v h1] at hasks; exact hasks, hlets⟩)
    unfold Oper.wp at *
    rw [execOp_put oj hsj a oi.dst v h1] at h
    generalize (execOp a.eval oj).run P w = r at *
    cases r with
    | ok n w' =>
      cases n <;> simp only [Oper.upon] at h ⊢
      case value u => exact ⟨keep a hy u, by rw [← Act.put_comm a v u h2]; exact h⟩
      case skip => exact ⟨keep a hy _, by rw [← Act.put_comm a v undef h2]; exact h⟩
      case defer d => exact ⟨keep _ (keepD d) _, by rw [← Act.put_comm _ v undef h2, ← Act.put_defers]; exact h⟩
      case enter f args =>
        refine Calls.mono h fun e w'' he => ?_
        cases e with
        | returned u => exact ⟨keep a hy u, by rw [← Act.put_comm a v u h2]; exact he⟩
        | panicked c => exact hQ _ _ _ _ _ he
        | outgrown => exact he
      case row row args => exact Rows.mono h fun u w'' he => ⟨keep a hy u, by rw [← Act.put_comm a v u h2]; exact he⟩
    | halt x w' =>
      cases x <;> simp only [Oper.upon] at h ⊢
      case panic u => exact hQ _ _ _ _ _ h
  · rw [if_neg hw] at h ⊢
    exact ⟨keep a hy _, by rw [← Act.put_comm a v undef h2]; exact h⟩
/-- Whatever order is picked until just those of LA are through; what is left then is walked as it comes. -/
def EnvC (P : Program) (md : Region.Mode) (ops : Array Oper) (Q : Exit → Act → World → Prop) (C : World → Prop) (LA : Array Bool) (g : Nat) : Nat → Array Bool → Act → World → Prop
  | 0, listed, a, w => ∀ w2, Fr [] w w2 → listed = LA ∧ wpAny P md ops Q g LA a w2
  | f + 1, listed, a, w => ∀ w2, Fr [] w w2 → Region.ready md ops listed ≠ [] ∧
      ∀ i ∈ Region.ready md ops listed, wpOp P ops Q i (fun a' w' => C w' ∧ EnvC P md ops Q C LA g f (listed.setIfInBounds i true) a' w') a w2
theorem EnvC.more {f : Nat} {listed : Array Bool} {a : Act} {w w' : World} (h : EnvC P md ops Q C LA g f listed a w) (k : Fr [] w w') : EnvC P md ops Q C LA g f listed a w' := by
  cases f with
  | zero => exact fun w2 h2 => h w2 (k.trans h2)
  | succ f => exact fun w2 h2 => h w2 (k.trans h2)
theorem EnvC.sound : ∀ (f : Nat) (listed : Array Bool) (a : Act) (w : World), EnvC P md ops Q C LA g f listed a w → wpAny P md ops Q (f + g) listed a w
  | 0, listed, a, w, h => by obtain ⟨rfl, h1⟩ := h w (Fr.refl _ _); rw [Nat.zero_add]; exact h1
  | f + 1, _, _, w, h => by
    rw [show f + 1 + g = (f + g) + 1 by omega]
    exact ⟨fun h0 => absurd h0 (h w (Fr.refl _ _)).1, fun i hi => wpOp_mono (fun a' w' hh => EnvC.sound f _ a' w' hh.2) ((h w (Fr.refl _ _)).2 i hi)⟩
theorem EnvC.first (hC : ∀ w w2, C w → Fr [] w w2 → C w2) {i : Nat} {oi : Oper} {v : Value} (hi : ops[i]? = some oi) (hsel : Region.noSelect ops = true) (hLB : waitB md ops LA i = true)
    (hQ : ∀ c a d v w, Q (.panic c) (a.put d v) w → Q (.panic c) a w) : ∀ (f : Nat) (listed : Array Bool) (a : Act) (w : World),
      (∀ j oj, ops[j]? = some oj → j ≠ i → listed.getD j true = false → (∀ e ∈ oj.after, Region.binds md e = true → e.on ≠ i) → oi.apart ops oj = true) →
      i ∈ Region.ready md ops listed → EnvYC P ops C oi v a → C w →
      EnvC P md ops Q C LA g f (listed.setIfInBounds i true) (a.put oi.dst v) w → EnvC P md ops Q C LA g (f + 1) listed a w
  | f, listed, a, w, hfree, hr, hy, hw, H => fun w2 h2 => by
    refine ⟨fun h => (by rw [h] at hr; cases hr), fun j hj => ?_⟩
    by_cases hji : j = i
    · subst hji; exact hy.wpOp hi (hC _ _ hw h2) fun w' hw' => ⟨hC _ _ (hC _ _ hw h2) hw', H.more (h2.trans hw')⟩
    · have hj' := ready_mono (i := i) hj hji
      obtain ⟨hjun, oj, hoj, hall⟩ := mem_ready.1 hj
      have hnot : ∀ e ∈ oj.after, Region.binds md e = true → e.on ≠ i := fun e he hb heq => by
        have g1 := hall e he hb
        have g0 := (mem_ready.1 hr).1
        rw [heq] at g1
        rcases Nat.lt_or_ge i listed.size with h' | h'
        · simp [h'] at g0 g1; rw [g0] at g1; cases g1
        · simp [Array.getElem?_eq_none h'] at g1
      cases f with
      | zero =>
        have hLA := (H w2 h2).1
        rw [hLA] at hj'
        obtain ⟨ok, hok, e, he, hb, hon⟩ := waitB_spec hLB (mem_ready.1 hj').1
        rw [hoj] at hok
        cases hok
        exact absurd hon (hnot e he hb)
      | succ f =>
        have h1 := (H w2 h2).2 j hj'
        have g2 := hy.other hoj (hfree j oj hoj hji hjun hnot) (fun cs b => Region.noSelect_spec hsel i oi cs b hi) (fun cs b => Region.noSelect_spec hsel j oj cs b hoj) hQ h1
        have hfree' : ∀ k ok, ops[k]? = some ok → k ≠ i → (listed.setIfInBounds j true).getD k true = false →
            (∀ e ∈ ok.after, Region.binds md e = true → e.on ≠ i) → oi.apart ops ok = true := fun k ok hk hki hun hno => by
          refine hfree k ok hk hki ?_ hno
          by_cases hjk : j = k
          · subst hjk; exact hjun
          · rw [getD_set_ne true hjk] at hun; exact hun
        refine wpOp_mono (fun a' w' h3 => ⟨h3.2.1, EnvC.first hC hi hsel hLB hQ f (listed.setIfInBounds j true) a' w' hfree' (ready_mono hr (Ne.symm hji)) h3.1 h3.2.1 ?_⟩) g2
        rw [Array.setIfInBounds_comm _ _ hji]
        exact h3.2.2
theorem envC_pass_list (hC : ∀ w w2, C w → Fr [] w w2 → C w2) (hs : Region.noSelect ops = true) (hQ : ∀ c a d v w, Q (.panic c) (a.put d v) w → Q (.panic c) a w) {aE : Act} {n f : Nat} :
    ∀ (m : List Bool) (L : List Oper) (k : Nat) (listed : Array Bool) (a : Act) (w : World), (∀ j, L[j]? = ops[k + j]?) → passB md ops k m listed = true → waitsB md ops LA k m = true → dstB n (sel m L) = true → a.tmps.size = n → C w →
      (∀ wf, C wf → wpQuiet P ops (fun w' => ∃ s : In wf, w' = s.at_) (fun a' => a' = aE) (sel m L) a) → EnvC P md ops Q C LA g f (markB k m listed) aE w → EnvC P md ops Q C LA g (f + countB m) listed a w
  | [], L, k, listed, a, w, _, _, _, _, _, hw, h, H => by
    have h0 : a = aE := by have := h w hw; cases L <;> exact this
    subst h0; exact H
  | false :: m, [], k, listed, a, w, hL, hB, hW, hd, hn, hw, h, H => envC_pass_list hC hs hQ m [] (k + 1) listed a w (fun j => by have := hL (j + 1); simpa [Nat.add_assoc, Nat.add_comm 1 j] using this) hB hW (by cases m with | nil => rfl | cons b m => cases b <;> rfl) hn hw (fun wf hf => by have := h wf hf; cases m with | nil => exact this | cons b m => cases b <;> exact this) H
  | false :: m, o :: L, k, listed, a, w, hL, hB, hW, hd, hn, hw, h, H => envC_pass_list hC hs hQ m L (k + 1) listed a w (fun j => by have := hL (j + 1); simpa [Nat.add_assoc, Nat.add_comm 1 j] using this) hB hW hd hn hw h H
  | true :: m, [], k, listed, a, w, hL, hB, _, _, _, _, _, _ => by
    exfalso
    simp only [passB, Bool.and_eq_true] at hB
    have hr : k ∈ Region.ready md ops listed := by simpa using hB.1.1
    obtain ⟨_, o, ho, _⟩ := mem_ready.1 hr
    have := hL 0
    simp [ho] at this
  | true :: m, o :: L, k, listed, a, w, hL, hB, hW, hd, hn, hw, h, H => by
    simp only [waitsB, Bool.and_eq_true] at hW
    obtain ⟨hW1, hW2⟩ := hW
    have h0 : ops[k]? = some o := by simpa using (hL 0).symm
    simp only [passB, Bool.and_eq_true] at hB
    obtain ⟨⟨hr, hf⟩, hB'⟩ := hB
    simp only [sel, dstB, Bool.and_eq_true] at hd
    obtain ⟨hd1, hd2⟩ := hd
    -- the value, and what follows
    have key : ∃ v, EnvYC P ops C o v a ∧ ∀ wf, C wf → wpQuiet P ops (fun w' => ∃ s : In wf, w' = s.at_) (fun a' => a' = aE) (sel m L) (a.put o.dst v) := by
      by_cases hw1 : Region.wanted o (yielded ops a.tmps) = true
      · have h' : ∀ wf, C wf → o.quiet P a (fun w' => ∃ s : In wf, w' = s.at_) (wpQuiet P ops (fun w' => ∃ s : In wf, w' = s.at_) (fun a' => a' = aE) (sel m L)) := fun wf hf => by
          have := h wf hf
          simp only [sel, wpQuiet] at this
          rwa [if_pos hw1] at this
        obtain ⟨v, _, hv2⟩ := h' w hw
        have same : ∀ wf, C wf → ∀ u, wpQuiet P ops (fun w' => ∃ s : In wf, w' = s.at_) (fun a' => a' = aE) (sel m L) (a.put o.dst u) → o.dst = none ∨ u = v := fun wf hf u hu => by
          cases hod : o.dst with
          | none => exact .inl rfl
          | some d =>
            rw [hod] at hd1 hu hv2
            simp only [Bool.and_eq_true, decide_eq_true_eq] at hd1
            have e1 := quiet_keeps (sel m L) _ hd1.2 hu
            have e2 := quiet_keeps (sel m L) _ hd1.2 hv2
            have hlt : d < a.tmps.size := by rw [hn]; exact hd1.1
            rw [e1] at e2
            simp [Act.put, hlt] at e2
            exact .inr e2
        refine ⟨v, .inl ⟨hw1, fun wf hf => ?_⟩, fun wf hf => ?_⟩
        · obtain ⟨u, hu1, hu2⟩ := h' wf hf
          refine ⟨u, ?_, same wf hf u hu2⟩
          have hq := hu1 wf ⟨⟨wf, Fr.refl _ _⟩, rfl⟩
          unfold Oper.quietAt at hq ⊢
          generalize (execOp a.eval o).run P wf = r at *
          cases r with
          | ok x w' =>
            cases x <;> simp only [Oper.quietUpon] at hq ⊢
            case value => exact hq
            case skip => exact hq
            case enter g args => exact ⟨hq.1, hq.2.mono fun e w'' ⟨he, s, hs⟩ => ⟨he, hs ▸ s.fr⟩⟩
          | halt x w' => exact hq
        · obtain ⟨u, _, hu2⟩ := h' wf hf
          rw [← put_same (same wf hf u hu2)]; exact hu2
      · refine ⟨undef, .inr ⟨by simpa using hw1, rfl⟩, fun wf hf => ?_⟩
        have := h wf hf
        simp only [sel, wpQuiet] at this
        rwa [if_neg hw1] at this
    obtain ⟨v, hy, hK⟩ := key
    exact EnvC.first hC h0 hs hW1 hQ (f + countB m) listed a w (Region.free_spec h0 hf) (by simpa using hr) hy hw
      (envC_pass_list hC hs hQ m L (k + 1) _ _ w (fun j => by have := hL (j + 1); simpa [Nat.add_assoc, Nat.add_comm 1 j] using this) hB' hW2 hd2 (by rw [size_put]; exact hn) hw hK H)
end
section
variable {P : Program} {l : List Oper} {Q : Exit → Act → World → Prop} {C : World → Prop} {LA : Array Bool} {g : Nat}
theorem envC_pass (hC : ∀ w w2, C w → Fr [] w w2 → C w2) (m : List Bool) (f : Nat) {g' n : Nat} {listed listed' : Array Bool} {a : Act} {w : World} (hf : f + countB m = g') (hs : Region.noSelect l.toArray = true) (hB : passB .any l.toArray 0 m listed = true) (hW : waitsB .any l.toArray LA 0 m = true)
    (hd : dstB n (sel m l) = true) (hn : a.tmps.size = n) (hl : markB 0 m listed = listed') (hQ : ∀ c a d v w, Q (.panic c) (a.put d v) w → Q (.panic c) a w) (hw : C w)
    (h : ∃ aE, (∀ wf, C wf → wpQuiet P l.toArray (fun w' => ∃ s : In wf, w' = s.at_) (fun a' => a' = aE) (sel m l) a) ∧ EnvC P .any l.toArray Q C LA g f listed' aE w) : EnvC P .any l.toArray Q C LA g g' listed a w := by
  subst hf; subst hl
  obtain ⟨aE, h, H⟩ := h
  exact envC_pass_list hC hs hQ m l 0 listed a w (by simp) hB hW hd hn hw h H
theorem envC_ready (rs : List Nat) {f : Nat} {listed : Array Bool} {a : Act} {w : World} (hr : Region.ready .any l.toArray listed = rs) (hne : rs ≠ [])
    (h : ∀ w2, Fr [] w w2 → ∀ i ∈ rs, ∀ o, l[i]? = some o → wpList P l.toArray (Nx Q (fun a' w' => C w' ∧ EnvC P .any l.toArray Q C LA g f (listed.setIfInBounds i true) a' w')) [o] a w2) : EnvC P .any l.toArray Q C LA g (f + 1) listed a w := by
  intro w2 h2
  refine ⟨fun h0 => hne (hr.symm.trans h0), fun i hi => ?_⟩
  have hi' := hi
  rw [hr] at hi'
  obtain ⟨_, o, ho, _⟩ := mem_ready.1 hi
  have ho' : l[i]? = some o := by simpa using ho
  exact wpOp_of_list ho' letsOut_nx (h w2 h2 i hi' o ho')
theorem envC_one (i : Nat) {o : Oper} {f : Nat} {listed listed' : Array Bool} {a : Act} {w : World} (hr : Region.ready .any l.toArray listed = [i]) (ho : l[i]? = some o) (hl : listed.setIfInBounds i true = listed')
    (h : ∀ w2, Fr [] w w2 → wpList P l.toArray (Nx Q (fun a' w' => C w' ∧ EnvC P .any l.toArray Q C LA g f listed' a' w')) [o] a w2) : EnvC P .any l.toArray Q C LA g (f + 1) listed a w := by
  subst hl
  intro w2 h2
  refine ⟨fun h0 => (by rw [hr] at h0; cases h0), fun j hj => ?_⟩
  rw [hr] at hj
  simp only [List.mem_singleton] at hj
  subst hj
  exact wpOp_of_list ho letsOut_nx (h w2 h2)
/-- What is left comes in the order of the text. -/
theorem envC_tail {k : Nat} {a : Act} {w : World} (hg : (l.drop k).length = g) (hB : Region.seqB .any l.toArray g k LA = true) (h : ∀ w2, Fr [] w w2 → wpList P l.toArray Q (l.drop k) a w2) : EnvC P .any l.toArray Q C LA g 0 LA a w := by
  intro w2 h2
  subst hg
  exact ⟨rfl, wpAny_of_seq (md := .any) (l.drop k) k LA a w2 (fun j => by simp [List.getElem?_drop]) hB (h w2 h2)⟩
theorem any_envC {n : Nat} {listed : Array Bool} {a : Act} {w : World} (C : World → Prop) (LA : Array Bool) (f g : Nat) (hl : f + g = n) (h : EnvC P .any l.toArray Q C LA g f listed a w) : wpAny P .any l.toArray Q n listed a w := by
  subst hl; exact EnvC.sound _ _ _ _ h
/-- Nothing is left. -/
theorem envC_done {k : Nat} {a : Act} {w : World} (hd : (l.drop k).length = 0) (hB : Region.seqB .any l.toArray 0 k LA = true) (h : ∀ w2, Fr [] w w2 → Q .normal a w2) : EnvC P .any l.toArray Q C LA 0 0 LA a w :=
  envC_tail hd hB (fun w2 h2 => by rw [List.eq_nil_of_length_eq_zero hd]; exact h w2 h2)
end
end Go.Proofs.Ytfchbbhopfganaa.Ar
