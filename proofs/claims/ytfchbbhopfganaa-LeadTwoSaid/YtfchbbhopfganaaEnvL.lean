/- Regions that draw their order and end in stores to blocks that they also read: first what comes in any order, then, behind all of it, what stands in the order of the text. -/
import Derived.Test.YtfchbbhopfganaaEnv
import Derived.StillTail
namespace Go.Proofs.Ytfchbbhopfganaa.Ar
open Go.RowKit
section
variable {P : Program} {ops : Array Oper} {Q : Exit → Act → World → Prop} {md : Region.Mode} {w0 : World} {S : List Nat} {LA : Array Bool} {g : Nat}
/-- Whatever order is picked until just those of LA are through; what is left then is walked as it comes. -/
def EnvL (P : Program) (md : Region.Mode) (ops : Array Oper) (Q : Exit → Act → World → Prop) (S : List Nat) (w0 : World) (LA : Array Bool) (g : Nat) : Nat → Array Bool → Act → World → Prop
  | 0, listed, a, w => ∀ w2, Fr [] w w2 → listed = LA ∧ wpAny P md ops Q g LA a w2
  | f + 1, listed, a, w => ∀ w2, Fr [] w w2 → Region.ready md ops listed ≠ [] ∧
      ∀ i ∈ Region.ready md ops listed, wpOp P ops Q i (fun a' w' => Fr S w0 w' ∧ EnvL P md ops Q S w0 LA g f (listed.setIfInBounds i true) a' w') a w2
theorem EnvL.more {f : Nat} {listed : Array Bool} {a : Act} {w w' : World} (h : EnvL P md ops Q S w0 LA g f listed a w) (k : Fr [] w w') : EnvL P md ops Q S w0 LA g f listed a w' := by
  cases f with
  | zero => exact fun w2 h2 => h w2 (k.trans h2)
  | succ f => exact fun w2 h2 => h w2 (k.trans h2)
theorem EnvL.sound : ∀ (f : Nat) (listed : Array Bool) (a : Act) (w : World), EnvL P md ops Q S w0 LA g f listed a w → wpAny P md ops Q (f + g) listed a w
  | 0, listed, a, w, h => by obtain ⟨rfl, h1⟩ := h w (Fr.refl _ _); rw [Nat.zero_add]; exact h1
  | f + 1, _, _, w, h => by
    rw [show f + 1 + g = (f + g) + 1 by omega]
    exact ⟨fun h0 => absurd h0 (h w (Fr.refl _ _)).1, fun i hi => wpOp_mono (fun a' w' hh => EnvL.sound f _ a' w' hh.2) ((h w (Fr.refl _ _)).2 i hi)⟩
/-- Whatever is not of LA waits for i. -/
def waitB (md : Region.Mode) (ops : Array Oper) (LA : Array Bool) (i : Nat) : Bool := (List.range LA.size).all fun j => LA.getD j true || Region.waitsFor md ops j i
theorem waitB_spec {i j : Nat} (h : waitB md ops LA i = true) (hj : LA.getD j true = false) : ∃ oj, ops[j]? = some oj ∧ ∃ e ∈ oj.after, Region.binds md e = true ∧ e.on = i := by
  unfold waitB at h
  have hlt : j < LA.size := by
    rcases Nat.lt_or_ge j LA.size with h' | h'
    · exact h'
    · simp [Array.getElem?_eq_none h'] at hj
  have := List.all_eq_true.1 h j (List.mem_range.2 hlt)
  rw [hj] at this
  exact Region.waitsFor_spec (by simpa using this)
theorem EnvL.first {i : Nat} {oi : Oper} {v : Value} (hi : ops[i]? = some oi) (hsel : Region.noSelect ops = true) (hLB : waitB md ops LA i = true)
    (hQ : ∀ c a d v w, Q (.panic c) (a.put d v) w → Q (.panic c) a w) : ∀ (f : Nat) (listed : Array Bool) (a : Act) (w : World),
      (∀ j oj, ops[j]? = some oj → j ≠ i → listed.getD j true = false → (∀ e ∈ oj.after, Region.binds md e = true → e.on ≠ i) → oi.apart ops oj = true) →
      i ∈ Region.ready md ops listed → EnvY P ops S w0 oi v a → Fr S w0 w →
      EnvL P md ops Q S w0 LA g f (listed.setIfInBounds i true) (a.put oi.dst v) w → EnvL P md ops Q S w0 LA g (f + 1) listed a w
  | f, listed, a, w, hfree, hr, hy, hw, H => fun w2 h2 => by
    refine ⟨fun h => (by rw [h] at hr; cases hr), fun j hj => ?_⟩
    by_cases hji : j = i
    · subst hji; exact hy.wpOp hi (hw.then h2) fun w' hw' => ⟨(hw.then h2).then hw', H.more (h2.trans hw')⟩
    · have hj' := ready_mono (i := i) hj hji
      obtain ⟨hjun, oj, hoj, hall⟩ := mem_ready.1 hj
      have hnot : ∀ e ∈ oj.after, Region.binds md e = true → e.on ≠ i := fun e he hb heq => by
        have g1 := hall e he hb
        have g0 := (mem_ready.1 hr).1
        rw [heq] at g1
        rcases Nat.lt_or_ge i listed.size with h' | h'
        · simp [h'] at g0 g1; rw [g0] at g1; cases g1
        · simp [Array.getElem?_eq_none h'] at g1
      cases f with
      | zero =>
        have hLA := (H w2 h2).1
        rw [hLA] at hj'
        obtain ⟨ok, hok, e, he, hb, hon⟩ := waitB_spec hLB (mem_ready.1 hj').1
        rw [hoj] at hok
        cases hok
        exact absurd hon (hnot e he hb)
      | succ f =>
        have h1 := (H w2 h2).2 j hj'
        have g2 := hy.other hoj (hfree j oj hoj hji hjun hnot) (fun cs b => Region.noSelect_spec hsel i oi cs b hi) (fun cs b => Region.noSelect_spec hsel j oj cs b hoj) hQ h1
        have hfree' : ∀ k ok, ops[k]? = some ok → k ≠ i → (listed.setIfInBounds j true).getD k true = false →
            (∀ e ∈ ok.after, Region.binds md e = true → e.on ≠ i) → oi.apart ops ok = true := fun k ok hk hki hun hno => by
          refine hfree k ok hk hki ?_ hno
          by_cases hjk : j = k
          · subst hjk; exact hjun
          · rw [getD_set_ne true hjk] at hun; exact hun
        refine wpOp_mono (fun a' w' h3 => ⟨h3.2.1, EnvL.first hi hsel hLB hQ f (listed.setIfInBounds j true) a' w' hfree' (ready_mono hr (Ne.symm hji)) h3.1 h3.2.1 ?_⟩) g2
        rw [Array.setIfInBounds_comm _ _ hji]
        exact h3.2.2
/-- All that a mask picks are waited for. -/
def waitsB (md : Region.Mode) (ops : Array Oper) (LA : Array Bool) : Nat → List Bool → Bool
  | k, true :: m => waitB md ops LA k && waitsB md ops LA (k + 1) m
  | k, false :: m => waitsB md ops LA (k + 1) m
  | _, [] => true
theorem envL_pass_list (hs : Region.noSelect ops = true) (hQ : ∀ c a d v w, Q (.panic c) (a.put d v) w → Q (.panic c) a w) {aE : Act} {n f : Nat} :
    ∀ (m : List Bool) (L : List Oper) (k : Nat) (listed : Array Bool) (a : Act) (w : World), (∀ j, L[j]? = ops[k + j]?) → passB md ops k m listed = true → waitsB md ops LA k m = true → dstB n (sel m L) = true → a.tmps.size = n → Fr S w0 w →
      (∀ wf, Fr S w0 wf → wpQuiet P ops (fun w' => ∃ s : In wf, w' = s.at_) (fun a' => a' = aE) (sel m L) a) → EnvL P md ops Q S w0 LA g f (markB k m listed) aE w → EnvL P md ops Q S w0 LA g (f + countB m) listed a w
  | [], L, k, listed, a, w, _, _, _, _, _, _, h, H => by
    have h0 : a = aE := by have := h w0 (Fr.refl _ _); cases L <;> exact this
    subst h0; exact H
  | false :: m, [], k, listed, a, w, hL, hB, hW, hd, hn, hw, h, H => envL_pass_list hs hQ m [] (k + 1) listed a w (fun j => by have := hL (j + 1); simpa [Nat.add_assoc, Nat.add_comm 1 j] using this) hB hW (by cases m with | nil => rfl | cons b m => cases b <;> rfl) hn hw (fun wf hf => by have := h wf hf; cases m with | nil => exact this | cons b m => cases b <;> exact this) H
  | false :: m, o :: L, k, listed, a, w, hL, hB, hW, hd, hn, hw, h, H => envL_pass_list hs hQ m L (k + 1) listed a w (fun j => by have := hL (j + 1); simpa [Nat.add_assoc, Nat.add_comm 1 j] using this) hB hW hd hn hw h H
  | true :: m, [], k, listed, a, w, hL, hB, _, _, _, _, _, _ => by
    exfalso
    simp only [passB, Bool.and_eq_true] at hB
    have hr : k ∈ Region.ready md ops listed := by simpa using hB.1.1
    obtain ⟨_, o, ho, _⟩ := mem_ready.1 hr
    have := hL 0
    simp [ho] at this
  | true :: m, o :: L, k, listed, a, w, hL, hB, hW, hd, hn, hw, h, H => by
    simp only [waitsB, Bool.and_eq_true] at hW
    obtain ⟨hW1, hW2⟩ := hW
    have h0 : ops[k]? = some o := by simpa using (hL 0).symm
    simp only [passB, Bool.and_eq_true] at hB
    obtain ⟨⟨hr, hf⟩, hB'⟩ := hB
    simp only [sel, dstB, Bool.and_eq_true] at hd
    obtain ⟨hd1, hd2⟩ := hd
    -- the value, and what follows
    have key : ∃ v, EnvY P ops S w0 o v a ∧ ∀ wf, Fr S w0 wf → wpQuiet P ops (fun w' => ∃ s : In wf, w' = s.at_) (fun a' => a' = aE) (sel m L) (a.put o.dst v) := by
      by_cases hw1 : Region.wanted o (yielded ops a.tmps) = true
      · have h' : ∀ wf, Fr S w0 wf → o.quiet P a (fun w' => ∃ s : In wf, w' = s.at_) (wpQuiet P ops (fun w' => ∃ s : In wf, w' = s.at_) (fun a' => a' = aE) (sel m L)) := fun wf hf => by
          have := h wf hf
          simp only [sel, wpQuiet] at this
          rwa [if_pos hw1] at this
        obtain ⟨v, _, hv2⟩ := h' w0 (Fr.refl _ _)
        have same : ∀ wf, Fr S w0 wf → ∀ u, wpQuiet P ops (fun w' => ∃ s : In wf, w' = s.at_) (fun a' => a' = aE) (sel m L) (a.put o.dst u) → o.dst = none ∨ u = v := fun wf hf u hu => by
          cases hod : o.dst with
          | none => exact .inl rfl
          | some d =>
            rw [hod] at hd1 hu hv2
            simp only [Bool.and_eq_true, decide_eq_true_eq] at hd1
            have e1 := quiet_keeps (sel m L) _ hd1.2 hu
            have e2 := quiet_keeps (sel m L) _ hd1.2 hv2
            have hlt : d < a.tmps.size := by rw [hn]; exact hd1.1
            rw [e1] at e2
            simp [Act.put, hlt] at e2
            exact .inr e2
        refine ⟨v, .inl ⟨hw1, fun wf hf => ?_⟩, fun wf hf => ?_⟩
        · obtain ⟨u, hu1, hu2⟩ := h' wf hf
          refine ⟨u, ?_, same wf hf u hu2⟩
          have hq := hu1 wf ⟨⟨wf, Fr.refl _ _⟩, rfl⟩
          unfold Oper.quietAt at hq ⊢
          generalize (execOp a.eval o).run P wf = r at *
          cases r with
          | ok x w' =>
            cases x <;> simp only [Oper.quietUpon] at hq ⊢
            case value => exact hq
            case skip => exact hq
            case enter g args => exact ⟨hq.1, hq.2.mono fun e w'' ⟨he, s, hs⟩ => ⟨he, hs ▸ s.fr⟩⟩
          | halt x w' => exact hq
        · obtain ⟨u, _, hu2⟩ := h' wf hf
          rw [← put_same (same wf hf u hu2)]; exact hu2
      · refine ⟨undef, .inr ⟨by simpa using hw1, rfl⟩, fun wf hf => ?_⟩
        have := h wf hf
        simp only [sel, wpQuiet] at this
        rwa [if_neg hw1] at this
    obtain ⟨v, hy, hK⟩ := key
    exact EnvL.first h0 hs hW1 hQ (f + countB m) listed a w (Region.free_spec h0 hf) (by simpa using hr) hy hw
      (envL_pass_list hs hQ m L (k + 1) _ _ w (fun j => by have := hL (j + 1); simpa [Nat.add_assoc, Nat.add_comm 1 j] using this) hB' hW2 hd2 (by rw [size_put]; exact hn) hw hK H)
end
section
variable {P : Program} {l : List Oper} {Q : Exit → Act → World → Prop} {w0 : World} {S : List Nat} {LA : Array Bool} {g : Nat}
theorem envL_pass (m : List Bool) (f : Nat) {g' n : Nat} {listed listed' : Array Bool} {a : Act} {w : World} (hf : f + countB m = g') (hs : Region.noSelect l.toArray = true) (hB : passB .any l.toArray 0 m listed = true) (hW : waitsB .any l.toArray LA 0 m = true)
    (hd : dstB n (sel m l) = true) (hn : a.tmps.size = n) (hl : markB 0 m listed = listed') (hQ : ∀ c a d v w, Q (.panic c) (a.put d v) w → Q (.panic c) a w) (hw : Fr S w0 w)
    (h : ∃ aE, (∀ wf, Fr S w0 wf → wpQuiet P l.toArray (fun w' => ∃ s : In wf, w' = s.at_) (fun a' => a' = aE) (sel m l) a) ∧ EnvL P .any l.toArray Q S w0 LA g f listed' aE w) : EnvL P .any l.toArray Q S w0 LA g g' listed a w := by
  subst hf; subst hl
  obtain ⟨aE, h, H⟩ := h
  exact envL_pass_list hs hQ m l 0 listed a w (by simp) hB hW hd hn hw h H
theorem envL_ready (rs : List Nat) {f : Nat} {listed : Array Bool} {a : Act} {w : World} (hr : Region.ready .any l.toArray listed = rs) (hne : rs ≠ [])
    (h : ∀ w2, Fr [] w w2 → ∀ i ∈ rs, ∀ o, l[i]? = some o → wpList P l.toArray (Nx Q (fun a' w' => Fr S w0 w' ∧ EnvL P .any l.toArray Q S w0 LA g f (listed.setIfInBounds i true) a' w')) [o] a w2) : EnvL P .any l.toArray Q S w0 LA g (f + 1) listed a w := by
  intro w2 h2
  refine ⟨fun h0 => hne (hr.symm.trans h0), fun i hi => ?_⟩
  have hi' := hi
  rw [hr] at hi'
  obtain ⟨_, o, ho, _⟩ := mem_ready.1 hi
  have ho' : l[i]? = some o := by simpa using ho
  exact wpOp_of_list ho' letsOut_nx (h w2 h2 i hi' o ho')
theorem envL_one (i : Nat) {o : Oper} {f : Nat} {listed listed' : Array Bool} {a : Act} {w : World} (hr : Region.ready .any l.toArray listed = [i]) (ho : l[i]? = some o) (hl : listed.setIfInBounds i true = listed')
    (h : ∀ w2, Fr [] w w2 → wpList P l.toArray (Nx Q (fun a' w' => Fr S w0 w' ∧ EnvL P .any l.toArray Q S w0 LA g f listed' a' w')) [o] a w2) : EnvL P .any l.toArray Q S w0 LA g (f + 1) listed a w := by
  subst hl
  intro w2 h2
  refine ⟨fun h0 => (by rw [hr] at h0; cases h0), fun j hj => ?_⟩
  rw [hr] at hj
  simp only [List.mem_singleton] at hj
  subst hj
  exact wpOp_of_list ho letsOut_nx (h w2 h2)
/-- What is left comes in the order of the text. -/
theorem envL_tail {k : Nat} {a : Act} {w : World} (hg : (l.drop k).length = g) (hB : Region.seqB .any l.toArray g k LA = true) (h : ∀ w2, Fr [] w w2 → wpList P l.toArray Q (l.drop k) a w2) : EnvL P .any l.toArray Q S w0 LA g 0 LA a w := by
  intro w2 h2
  subst hg
  exact ⟨rfl, wpAny_of_seq (md := .any) (l.drop k) k LA a w2 (fun j => by simp [List.getElem?_drop]) hB (h w2 h2)⟩
/-- A move that nothing waits for: taken first. -/
theorem take_move (i : Nat) {d : Tmp} {x : Operand} {ty : TypeId} {ps : String} {af : Array Edge} {f : Nat} {listed listed' : Array Bool} {a : Act} {w : World} (hi : l[i]? = some { dst := some d, op := Op.move x, type := ty, pos := ps, after := af, guard := none })
    (hs : Region.noSelect l.toArray = true) (hf : Region.free .any l.toArray listed i = true) (hr : (Region.ready .any l.toArray listed).contains i = true) (hl : listed.setIfInBounds i true = listed') (hQ : ∀ c a d v w, Q (.panic c) (a.put d v) w → Q (.panic c) a w)
    (h : wpAny P .any l.toArray Q f listed' (a.put (some d) (a.eval x)) w) : wpAny P .any l.toArray Q (f + 1) listed a w := by
  subst hl
  exact wpAny_take (by simpa using hi) hs hf hr (fun c a w => hQ c a (some d) _ w) (.inl ⟨rfl, fun w => rfl⟩) h
theorem any_envL {n : Nat} {listed : Array Bool} {a : Act} {w : World} (S : List Nat) (w0 : World) (LA : Array Bool) (f g : Nat) (hl : f + g = n) (h : EnvL P .any l.toArray Q S w0 LA g f listed a w) : wpAny P .any l.toArray Q n listed a w := by
  subst hl; exact EnvL.sound _ _ _ _ h
theorem wp_region_free {id : Nat} {a : Act} {w : World} (hm : P.follows .mixedOrders = true) (h : wpAny P .any l.toArray Q l.length (Array.replicate l.length false) a w.drew) : (Code.region id l.toArray true).wp P Q a w :=
  wp_region_any hm (by simpa using h)
end
end Go.Proofs.Ytfchbbhopfganaa.Ar
