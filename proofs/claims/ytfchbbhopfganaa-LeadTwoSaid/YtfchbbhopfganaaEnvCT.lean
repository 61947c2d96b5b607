/- EnvT's pass for whatever is kept of worlds. -/
import Derived.Test.YtfchbbhopfganaaEnvT
import Derived.Test.YtfchbbhopfganaaEnvC
namespace Go.Proofs.Ytfchbbhopfganaa.Ar
open Go.RowKit
section
variable {P : Program} {ops : Array Oper} {Q : Exit → Act → World → Prop} {md : Region.Mode} {C : World → Prop} {LA : Array Bool} {g : Nat}
theorem EnvC.firstT (hC : ∀ w w2, C w → Fr [] w w2 → C w2) {i : Nat} {oi : Oper} {v : Value} (hi : ops[i]? = some oi) (hsel : Region.noSelect ops = true) (hLB : waitT md ops LA i = true)
    (hQ : ∀ c a d v w, Q (.panic c) (a.put d v) w → Q (.panic c) a w) : ∀ (f : Nat) (listed : Array Bool) (a : Act) (w : World),
      (∀ j oj, ops[j]? = some oj → j ≠ i → listed.getD j true = false → (∀ e ∈ oj.after, Region.binds md e = true → e.on ≠ i) → oi.apart ops oj = true) →
      Clo md ops listed → i ∈ Region.ready md ops listed → EnvYC P ops C oi v a → C w →
      EnvC P md ops Q C LA g f (listed.setIfInBounds i true) (a.put oi.dst v) w → EnvC P md ops Q C LA g (f + 1) listed a w
  | f, listed, a, w, hfree, hcl, hr, hy, hw, H => fun w2 h2 => by
    refine ⟨fun h => (by rw [h] at hr; cases hr), fun j hj => ?_⟩
    by_cases hji : j = i
    · subst hji; exact hy.wpOp hi (hC _ _ hw h2) fun w' hw' => ⟨hC _ _ (hC _ _ hw h2) hw', H.more (h2.trans hw')⟩
    · have hj' := ready_mono (i := i) hj hji
      obtain ⟨hjun, oj, hoj, hall⟩ := mem_ready.1 hj
      have hnot : ∀ e ∈ oj.after, Region.binds md e = true → e.on ≠ i := fun e he hb heq => by
        have g1 := hall e he hb
        have g0 := (mem_ready.1 hr).1
        rw [heq] at g1
        rcases Nat.lt_or_ge i listed.size with h' | h'
        · simp [h'] at g0 g1; rw [g0] at g1; cases g1
        · simp [Array.getElem?_eq_none h'] at g1
      cases f with
      | zero =>
        have hLA := (H w2 h2).1
        rcases waitT_spec hLB with hLB | ⟨k, ok, klt, k1, k2, k3, e, he, hb, hon⟩
        · rw [hLA] at hj'
          obtain ⟨ok, hok, e, he, hb, hon⟩ := waitB_spec hLB (mem_ready.1 hj').1
          rw [hoj] at hok
          cases hok
          exact absurd hon (hnot e he hb)
        · rw [← hLA, getD_set_ne false (Ne.symm k2)] at k1
          have c1 := hcl k ok k1 k3 e he hb
          rw [hon] at c1
          have g0 := (mem_ready.1 hr).1
          rcases Nat.lt_or_ge i listed.size with h' | h'
          · simp [h'] at g0 c1; rw [g0] at c1; cases c1
          · have := Array.getElem?_eq_none h'
            simp [this] at g0
      | succ f =>
        have h1 := (H w2 h2).2 j hj'
        have g2 := hy.other hoj (hfree j oj hoj hji hjun hnot) (fun cs b => Region.noSelect_spec hsel i oi cs b hi) (fun cs b => Region.noSelect_spec hsel j oj cs b hoj) hQ h1
        have hfree' : ∀ k ok, ops[k]? = some ok → k ≠ i → (listed.setIfInBounds j true).getD k true = false →
            (∀ e ∈ ok.after, Region.binds md e = true → e.on ≠ i) → oi.apart ops ok = true := fun k ok hk hki hun hno => by
          refine hfree k ok hk hki ?_ hno
          by_cases hjk : j = k
          · subst hjk; exact hjun
          · rw [getD_set_ne true hjk] at hun; exact hun
        refine wpOp_mono (fun a' w' h3 => ⟨h3.2.1, EnvC.firstT hC hi hsel hLB hQ f (listed.setIfInBounds j true) a' w' hfree' (hcl.set hj) (ready_mono hr (Ne.symm hji)) h3.1 h3.2.1 ?_⟩) g2
        rw [Array.setIfInBounds_comm _ _ hji]
        exact h3.2.2
theorem envCT_pass_list (hC : ∀ w w2, C w → Fr [] w w2 → C w2) (hs : Region.noSelect ops = true) (hQ : ∀ c a d v w, Q (.panic c) (a.put d v) w → Q (.panic c) a w) {aE : Act} {n f : Nat} :
    ∀ (m : List Bool) (L : List Oper) (k : Nat) (listed : Array Bool) (a : Act) (w : World), (∀ j, L[j]? = ops[k + j]?) → Clo md ops listed → passB md ops k m listed = true → waitsT md ops LA k m = true → dstB n (sel m L) = true → a.tmps.size = n → C w →
      (∀ wf, C wf → wpQuiet P ops (fun w' => ∃ s : In wf, w' = s.at_) (fun a' => a' = aE) (sel m L) a) → EnvC P md ops Q C LA g f (markB k m listed) aE w → EnvC P md ops Q C LA g (f + countB m) listed a w
  | [], L, k, listed, a, w, _, _, _, _, _, _, hw, h, H => by
    have h0 : a = aE := by have := h w hw; cases L <;> exact this
    subst h0; exact H
  | false :: m, [], k, listed, a, w, hL, hCl, hB, hW, hd, hn, hw, h, H => envCT_pass_list hC hs hQ m [] (k + 1) listed a w (fun j => by have := hL (j + 1); simpa [Nat.add_assoc, Nat.add_comm 1 j] using this) hCl hB hW (by cases m with | nil => rfl | cons b m => cases b <;> rfl) hn hw (fun wf hf => by have := h wf hf; cases m with | nil => exact this | cons b m => cases b <;> exact this) H
  | false :: m, o :: L, k, listed, a, w, hL, hCl, hB, hW, hd, hn, hw, h, H => envCT_pass_list hC hs hQ m L (k + 1) listed a w (fun j => by have := hL (j + 1); simpa [Nat.add_assoc, Nat.add_comm 1 j] using this) hCl hB hW hd hn hw h H
  | true :: m, [], k, listed, a, w, hL, hCl, hB, _, _, _, _, _, _ => by
    exfalso
    simp only [passB, Bool.and_eq_true] at hB
    have hr : k ∈ Region.ready md ops listed := by simpa using hB.1.1
    obtain ⟨_, o, ho, _⟩ := mem_ready.1 hr
    have := hL 0
    simp [ho] at this
  | true :: m, o :: L, k, listed, a, w, hL, hCl, hB, hW, hd, hn, hw, h, H => by
    simp only [waitsT, Bool.and_eq_true] at hW
    obtain ⟨hW1, hW2⟩ := hW
    have h0 : ops[k]? = some o := by simpa using (hL 0).symm
    simp only [passB, Bool.and_eq_true] at hB
    obtain ⟨⟨hr, hf⟩, hB'⟩ := hB
    simp only [sel, dstB, Bool.and_eq_true] at hd
    obtain ⟨hd1, hd2⟩ := hd
    -- the value, and what follows
    have key : ∃ v, EnvYC P ops C o v a ∧ ∀ wf, C wf → wpQuiet P ops (fun w' => ∃ s : In wf, w' = s.at_) (fun a' => a' = aE) (sel m L) (a.put o.dst v) := by
      by_cases hw1 : Region.wanted o (yielded ops a.tmps) = true
      · have h' : ∀ wf, C wf → o.quiet P a (fun w' => ∃ s : In wf, w' = s.at_) (wpQuiet P ops (fun w' => ∃ s : In wf, w' = s.at_) (fun a' => a' = aE) (sel m L)) := fun wf hf => by
          have := h wf hf
          simp only [sel, wpQuiet] at this
          rwa [if_pos hw1] at this
        obtain ⟨v, _, hv2⟩ := h' w hw
        have same : ∀ wf, C wf → ∀ u, wpQuiet P ops (fun w' => ∃ s : In wf, w' = s.at_) (fun a' => a' = aE) (sel m L) (a.put o.dst u) → o.dst = none ∨ u = v := fun wf hf u hu => by
          cases hod : o.dst with
          | none => exact .inl rfl
          | some d =>
            rw [hod] at hd1 hu hv2
            simp only [Bool.and_eq_true, decide_eq_true_eq] at hd1
            have e1 := quiet_keeps (sel m L) _ hd1.2 hu
            have e2 := quiet_keeps (sel m L) _ hd1.2 hv2
            have hlt : d < a.tmps.size := by rw [hn]; exact hd1.1
            rw [e1] at e2
            simp [Act.put, hlt] at e2
            exact .inr e2
        refine ⟨v, .inl ⟨hw1, fun wf hf => ?_⟩, fun wf hf => ?_⟩
        · obtain ⟨u, hu1, hu2⟩ := h' wf hf
          refine ⟨u, ?_, same wf hf u hu2⟩
          have hq := hu1 wf ⟨⟨wf, Fr.refl _ _⟩, rfl⟩
          unfold Oper.quietAt at hq ⊢
          generalize (execOp a.eval o).run P wf = r at *
          cases r with
          | ok x w' =>
            cases x <;> simp only [Oper.quietUpon] at hq ⊢
            case value => exact hq
            case skip => exact hq
            case enter g args => exact ⟨hq.1, hq.2.mono fun e w'' ⟨he, s, hs⟩ => ⟨he, hs ▸ s.fr⟩⟩
          | halt x w' => exact hq
        · obtain ⟨u, _, hu2⟩ := h' wf hf
          rw [← put_same (same wf hf u hu2)]; exact hu2
      · refine ⟨undef, .inr ⟨by simpa using hw1, rfl⟩, fun wf hf => ?_⟩
        have := h wf hf
        simp only [sel, wpQuiet] at this
        rwa [if_neg hw1] at this
    obtain ⟨v, hy, hK⟩ := key
    exact EnvC.firstT hC h0 hs hW1 hQ (f + countB m) listed a w (Region.free_spec h0 hf) hCl (by simpa using hr) hy hw
      (envCT_pass_list hC hs hQ m L (k + 1) _ _ w (fun j => by have := hL (j + 1); simpa [Nat.add_assoc, Nat.add_comm 1 j] using this) (hCl.set (by simpa using hr)) hB' hW2 hd2 (by rw [size_put]; exact hn) hw hK H)
end
section
variable {P : Program} {l : List Oper} {Q : Exit → Act → World → Prop} {C : World → Prop} {LA : Array Bool} {g : Nat}
theorem envCT_pass (hC : ∀ w w2, C w → Fr [] w w2 → C w2) (m : List Bool) (f : Nat) {g' n : Nat} {listed listed' : Array Bool} {a : Act} {w : World} (hf : f + countB m = g') (hs : Region.noSelect l.toArray = true) (hCl : cloB .any l.toArray listed = true) (hB : passB .any l.toArray 0 m listed = true) (hW : waitsT .any l.toArray LA 0 m = true)
    (hd : dstB n (sel m l) = true) (hn : a.tmps.size = n) (hl : markB 0 m listed = listed') (hQ : ∀ c a d v w, Q (.panic c) (a.put d v) w → Q (.panic c) a w) (hw : C w)
    (h : ∃ aE, (∀ wf, C wf → wpQuiet P l.toArray (fun w' => ∃ s : In wf, w' = s.at_) (fun a' => a' = aE) (sel m l) a) ∧ EnvC P .any l.toArray Q C LA g f listed' aE w) : EnvC P .any l.toArray Q C LA g g' listed a w := by
  subst hf; subst hl
  obtain ⟨aE, h, H⟩ := h
  exact envCT_pass_list hC hs hQ m l 0 listed a w (by simp) (cloB_spec hCl) hB hW hd hn hw h H
end
end Go.Proofs.Ytfchbbhopfganaa.Ar
