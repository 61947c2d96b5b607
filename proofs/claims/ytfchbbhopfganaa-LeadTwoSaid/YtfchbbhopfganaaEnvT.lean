/- Regions that draw their order and end in what stands in the order of the text: each that comes ahead is waited for, by one behind or by another one ahead. -/
import Derived.Test.YtfchbbhopfganaaEnvL
namespace Go.Proofs.Ytfchbbhopfganaa.Ar
open Go.RowKit
section
variable {P : Program} {ops : Array Oper} {Q : Exit → Act → World → Prop} {md : Region.Mode} {w0 : World} {S : List Nat} {LA : Array Bool} {g : Nat}
/-- What is through has waited for nothing that is not. -/
def Clo (md : Region.Mode) (ops : Array Oper) (listed : Array Bool) : Prop := ∀ k ok, listed.getD k false = true → ops[k]? = some ok → ∀ e ∈ ok.after, Region.binds md e = true → listed.getD e.on false = true
def cloB (md : Region.Mode) (ops : Array Oper) (listed : Array Bool) : Bool := (List.range listed.size).all fun k => !(listed.getD k false) || (match ops[k]? with | none => true | some ok => ok.after.all fun e => !(Region.binds md e) || listed.getD e.on false)
theorem cloB_spec {listed : Array Bool} (h : cloB md ops listed = true) : Clo md ops listed := by
  intro k ok hk ho e he hb
  have hlt : k < listed.size := by
    rcases Nat.lt_or_ge k listed.size with h' | h'
    · exact h'
    · simp [Array.getElem?_eq_none h'] at hk
  have := List.all_eq_true.1 h k (List.mem_range.2 hlt)
  rw [hk, ho] at this
  simp only [Bool.not_true, Bool.false_or, Array.all_eq_true] at this
  obtain ⟨i, hi, rfl⟩ := Array.mem_iff_getElem.1 he
  have h2 := this i hi
  rw [hb] at h2
  simpa using h2
theorem Clo.set {listed : Array Bool} {i : Nat} (h : Clo md ops listed) (hr : i ∈ Region.ready md ops listed) : Clo md ops (listed.setIfInBounds i true) := by
  have keep : ∀ k, listed.getD k false = true → (listed.setIfInBounds i true).getD k false = true := fun k hk => by
    by_cases e : i = k
    · subst e
      rcases Nat.lt_or_ge i listed.size with h' | h'
      · simp [h']
      · simp [Array.getElem?_eq_none h'] at hk
    · rw [getD_set_ne false e]; exact hk
  obtain ⟨_, o, ho, hall⟩ := mem_ready.1 hr
  intro k ok hk hok e he hb
  by_cases e1 : i = k
  · subst e1; rw [ho] at hok; cases hok
    exact keep _ (hall e he hb)
  · rw [getD_set_ne false e1] at hk
    exact keep _ (h k ok hk hok e he hb)
/-- Whatever is not of LA waits for i, or one of LA does. -/
def waitT (md : Region.Mode) (ops : Array Oper) (LA : Array Bool) (i : Nat) : Bool := waitB md ops LA i || ((List.range LA.size).any fun k => LA.getD k false && (!(decide (k = i)) && Region.waitsFor md ops k i))
theorem waitT_spec {i : Nat} (h : waitT md ops LA i = true) : waitB md ops LA i = true ∨ ∃ k ok, k < LA.size ∧ LA.getD k false = true ∧ k ≠ i ∧ ops[k]? = some ok ∧ ∃ e ∈ ok.after, Region.binds md e = true ∧ e.on = i := by
  unfold waitT at h
  rcases Bool.or_eq_true_iff.1 h with h | h
  · exact .inl h
  · obtain ⟨k, hk, h2⟩ := List.any_eq_true.1 h
    simp only [Bool.and_eq_true, Bool.not_eq_true', decide_eq_false_iff_not] at h2
    obtain ⟨ok, h3, h4⟩ := Region.waitsFor_spec h2.2.2
    have hlt := List.mem_range.1 hk
    exact .inr ⟨k, ok, hlt, h2.1, h2.2.1, h3, h4⟩
theorem EnvL.firstT {i : Nat} {oi : Oper} {v : Value} (hi : ops[i]? = some oi) (hsel : Region.noSelect ops = true) (hLB : waitT md ops LA i = true)
    (hQ : ∀ c a d v w, Q (.panic c) (a.put d v) w → Q (.panic c) a w) : ∀ (f : Nat) (listed : Array Bool) (a : Act) (w : World),
      (∀ j oj, ops[j]? = some oj → j ≠ i → listed.getD j true = false → (∀ e ∈ oj.after, Region.binds md e = true → e.on ≠ i) → oi.apart ops oj = true) →
      Clo md ops listed → i ∈ Region.ready md ops listed → EnvY P ops S w0 oi v a → Fr S w0 w →
      EnvL P md ops Q S w0 LA g f (listed.setIfInBounds i true) (a.put oi.dst v) w → EnvL P md ops Q S w0 LA g (f + 1) listed a w
  | f, listed, a, w, hfree, hcl, hr, hy, hw, H => fun w2 h2 => by
    refine ⟨fun h => (by rw [h] at hr; cases hr), fun j hj => ?_⟩
    by_cases hji : j = i
    · subst hji; exact hy.wpOp hi (hw.then h2) fun w' hw' => ⟨(hw.then h2).then hw', H.more (h2.trans hw')⟩
    · have hj' := ready_mono (i := i) hj hji
      obtain ⟨hjun, oj, hoj, hall⟩ := mem_ready.1 hj
      have hnot : ∀ e ∈ oj.after, Region.binds md e = true → e.on ≠ i := fun e he hb heq => by
        have g1 := hall e he hb
        have g0 := (mem_ready.1 hr).1
        rw [heq] at g1
        rcases Nat.lt_or_ge i listed.size with h' | h'
        · simp [h'] at g0 g1; rw [g0] at g1; cases g1
        · simp [Array.getElem?_eq_none h'] at g1
      cases f with
      | zero =>
        have hLA := (H w2 h2).1
        rcases waitT_spec hLB with hLB | ⟨k, ok, klt, k1, k2, k3, e, he, hb, hon⟩
        · rw [hLA] at hj'
          obtain ⟨ok, hok, e, he, hb, hon⟩ := waitB_spec hLB (mem_ready.1 hj').1
          rw [hoj] at hok
          cases hok
          exact absurd hon (hnot e he hb)
        · rw [← hLA, getD_set_ne false (Ne.symm k2)] at k1
          have c1 := hcl k ok k1 k3 e he hb
          rw [hon] at c1
          have g0 := (mem_ready.1 hr).1
          rcases Nat.lt_or_ge i listed.size with h' | h'
          · simp [h'] at g0 c1; rw [g0] at c1; cases c1
          · have := Array.getElem?_eq_none h'
            simp [this] at g0
      | succ f =>
        have h1 := (H w2 h2).2 j hj'
        have g2 := hy.other hoj (hfree j oj hoj hji hjun hnot) (fun cs b => Region.noSelect_spec hsel i oi cs b hi) (fun cs b => Region.noSelect_spec hsel j oj cs b hoj) hQ h1
        have hfree' : ∀ k ok, ops[k]? = some ok → k ≠ i → (listed.setIfInBounds j true).getD k true = false →
            (∀ e ∈ ok.after, Region.binds md e = true → e.on ≠ i) → oi.apart ops ok = true := fun k ok hk hki hun hno => by
          refine hfree k ok hk hki ?_ hno
          by_cases hjk : j = k
          · subst hjk; exact hjun
          · rw [getD_set_ne true hjk] at hun; exact hun
        refine wpOp_mono (fun a' w' h3 => ⟨h3.2.1, EnvL.firstT hi hsel hLB hQ f (listed.setIfInBounds j true) a' w' hfree' (hcl.set hj) (ready_mono hr (Ne.symm hji)) h3.1 h3.2.1 ?_⟩) g2
        rw [Array.setIfInBounds_comm _ _ hji]
        exact h3.2.2
/-- All that a mask picks are waited for. -/
def waitsT (md : Region.Mode) (ops : Array Oper) (LA : Array Bool) : Nat → List Bool → Bool
  | k, true :: m => waitT md ops LA k && waitsT md ops LA (k + 1) m
  | k, false :: m => waitsT md ops LA (k + 1) m
  | _, [] => true
theorem envT_pass_list (hs : Region.noSelect ops = true) (hQ : ∀ c a d v w, Q (.panic c) (a.put d v) w → Q (.panic c) a w) {aE : Act} {n f : Nat} :
    ∀ (m : List Bool) (L : List Oper) (k : Nat) (listed : Array Bool) (a : Act) (w : World), (∀ j, L[j]? = ops[k + j]?) → Clo md ops listed → passB md ops k m listed = true → waitsT md ops LA k m = true → dstB n (sel m L) = true → a.tmps.size = n → Fr S w0 w →
      (∀ wf, Fr S w0 wf → wpQuiet P ops (fun w' => ∃ s : In wf, w' = s.at_) (fun a' => a' = aE) (sel m L) a) → EnvL P md ops Q S w0 LA g f (markB k m listed) aE w → EnvL P md ops Q S w0 LA g (f + countB m) listed a w
  | [], L, k, listed, a, w, _, _, _, _, _, _, _, h, H => by
    have h0 : a = aE := by have := h w0 (Fr.refl _ _); cases L <;> exact this
    subst h0; exact H
  | false :: m, [], k, listed, a, w, hL, hC, hB, hW, hd, hn, hw, h, H => envT_pass_list hs hQ m [] (k + 1) listed a w (fun j => by have := hL (j + 1); simpa [Nat.add_assoc, Nat.add_comm 1 j] using this) hC hB hW (by cases m with | nil => rfl | cons b m => cases b <;> rfl) hn hw (fun wf hf => by have := h wf hf; cases m with | nil => exact this | cons b m => cases b <;> exact this) H
  | false :: m, o :: L, k, listed, a, w, hL, hC, hB, hW, hd, hn, hw, h, H => envT_pass_list hs hQ m L (k + 1) listed a w (fun j => by have := hL (j + 1); simpa [Nat.add_assoc, Nat.add_comm 1 j] using this) hC hB hW hd hn hw h H
  | true :: m, [], k, listed, a, w, hL, hC, hB, _, _, _, _, _, _ => by
    exfalso
    simp only [passB, Bool.and_eq_true] at hB
    have hr : k ∈ Region.ready md ops listed := by simpa using hB.1.1
    obtain ⟨_, o, ho, _⟩ := mem_ready.1 hr
    have := hL 0
    simp [ho] at this
  | true :: m, o :: L, k, listed, a, w, hL, hC, hB, hW, hd, hn, hw, h, H => by
    simp only [waitsT, Bool.and_eq_true] at hW
    obtain ⟨hW1, hW2⟩ := hW
    have h0 : ops[k]? = some o := by simpa using (hL 0).symm
    simp only [passB, Bool.and_eq_true] at hB
    obtain ⟨⟨hr, hf⟩, hB'⟩ := hB
    simp only [sel, dstB, Bool.and_eq_true] at hd
    obtain ⟨hd1, hd2⟩ := hd
    -- the value, and what follows
    have key : ∃ v, EnvY P ops S w0 o v a ∧ ∀ wf, Fr S w0 wf → wpQuiet P ops (fun w' => ∃ s : In wf, w' = s.at_) (fun a' => a' = aE) (sel m L) (a.put o.dst v) := by
      by_cases hw1 : Region.wanted o (yielded ops a.tmps) = true
      · have h' : ∀ wf, Fr S w0 wf → o.quiet P a (fun w' => ∃ s : In wf, w' = s.at_) (wpQuiet P ops (fun w' => ∃ s : In wf, w' = s.at_) (fun a' => a' = aE) (sel m L)) := fun wf hf => by
          have := h wf hf
          simp only [sel, wpQuiet] at this
          rwa [if_pos hw1] at this
        obtain ⟨v, _, hv2⟩ := h' w0 (Fr.refl _ _)
        have same : ∀ wf, Fr S w0 wf → ∀ u, wpQuiet P ops (fun w' => ∃ s : In wf, w' = s.at_) (fun a' => a' = aE) (sel m L) (a.put o.dst u) → o.dst = none ∨ u = v := fun wf hf u hu => by
          cases hod : o.dst with
          | none => exact .inl rfl
          | some d =>
            rw [hod] at hd1 hu hv2
            simp only [Bool.and_eq_true, decide_eq_true_eq] at hd1
            have e1 := quiet_keeps (sel m L) _ hd1.2 hu
            have e2 := quiet_keeps (sel m L) _ hd1.2 hv2
            have hlt : d < a.tmps.size := by rw [hn]; exact hd1.1
            rw [e1] at e2
            simp [Act.put, hlt] at e2
            exact .inr e2
        refine ⟨v, .inl ⟨hw1, fun wf hf => ?_⟩, fun wf hf => ?_⟩
        · obtain ⟨u, hu1, hu2⟩ := h' wf hf
          refine ⟨u, ?_, same wf hf u hu2⟩
          have hq := hu1 wf ⟨⟨wf, Fr.refl _ _⟩, rfl⟩
          unfold Oper.quietAt at hq ⊢
          generalize (execOp a.eval o).run P wf = r at *
          cases r with
          | ok x w' =>
            cases x <;> simp only [Oper.quietUpon] at hq ⊢
            case value => exact hq
            case skip => exact hq
            case enter g args => exact ⟨hq.1, hq.2.mono fun e w'' ⟨he, s, hs⟩ => ⟨he, hs ▸ s.fr⟩⟩
          | halt x w' => exact hq
        · obtain ⟨u, _, hu2⟩ := h' wf hf
          rw [← put_same (same wf hf u hu2)]; exact hu2
      · refine ⟨undef, .inr ⟨by simpa using hw1, rfl⟩, fun wf hf => ?_⟩
        have := h wf hf
        simp only [sel, wpQuiet] at this
        rwa [if_neg hw1] at this
    obtain ⟨v, hy, hK⟩ := key
    exact EnvL.firstT h0 hs hW1 hQ (f + countB m) listed a w (Region.free_spec h0 hf) hC (by simpa using hr) hy hw
      (envT_pass_list hs hQ m L (k + 1) _ _ w (fun j => by have := hL (j + 1); simpa [Nat.add_assoc, Nat.add_comm 1 j] using this) (hC.set (by simpa using hr)) hB' hW2 hd2 (by rw [size_put]; exact hn) hw hK H)
end
section
variable {P : Program} {l : List Oper} {Q : Exit → Act → World → Prop} {w0 : World} {S : List Nat} {LA : Array Bool} {g : Nat}
theorem envT_pass (m : List Bool) (f : Nat) {g' n : Nat} {listed listed' : Array Bool} {a : Act} {w : World} (hf : f + countB m = g') (hs : Region.noSelect l.toArray = true) (hC : cloB .any l.toArray listed = true) (hB : passB .any l.toArray 0 m listed = true) (hW : waitsT .any l.toArray LA 0 m = true)
    (hd : dstB n (sel m l) = true) (hn : a.tmps.size = n) (hl : markB 0 m listed = listed') (hQ : ∀ c a d v w, Q (.panic c) (a.put d v) w → Q (.panic c) a w) (hw : Fr S w0 w)
    (h : ∃ aE, (∀ wf, Fr S w0 wf → wpQuiet P l.toArray (fun w' => ∃ s : In wf, w' = s.at_) (fun a' => a' = aE) (sel m l) a) ∧ EnvL P .any l.toArray Q S w0 LA g f listed' aE w) : EnvL P .any l.toArray Q S w0 LA g g' listed a w := by
  subst hf; subst hl
  obtain ⟨aE, h, H⟩ := h
  exact envT_pass_list hs hQ m l 0 listed a w (by simp) (cloB_spec hC) hB hW hd hn hw h H
end
end Go.Proofs.Ytfchbbhopfganaa.Ar
