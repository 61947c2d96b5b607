/- Regions that draw their order, walked by hand: operations that read, and calls that make new blocks alone, are taken first, wherever they stand; all others are met one by one, whatever new blocks were laid between. -/
import Derived.Test.YtfchbbhopfganaaFr
namespace Go.Proofs.Ytfchbbhopfganaa.Ar
open Go.RowKit
section
variable {P : Program} {ops : Array Oper} {Q : Exit → Act → World → Prop} {md : Region.Mode} {w0 : World} {S : List Nat}
/-- Whatever order is picked, whatever new blocks are laid between any two operations; blocks of w0 stay. -/
def Env (P : Program) (md : Region.Mode) (ops : Array Oper) (Q : Exit → Act → World → Prop) (S : List Nat) (w0 : World) : Nat → Array Bool → Act → World → Prop
  | 0, listed, a, w => ∀ w2, Fr [] w w2 → Region.ready md ops listed = [] ∧ Q .normal a w2
  | f + 1, listed, a, w => ∀ w2, Fr [] w w2 → (Region.ready md ops listed = [] → Q .normal a w2) ∧
      ∀ i ∈ Region.ready md ops listed, wpOp P ops Q i (fun a' w' => Fr S w0 w' ∧ Env P md ops Q S w0 f (listed.setIfInBounds i true) a' w') a w2
theorem Env.more {f : Nat} {listed : Array Bool} {a : Act} {w w' : World} (h : Env P md ops Q S w0 f listed a w) (g : Fr [] w w') : Env P md ops Q S w0 f listed a w' := by
  cases f with
  | zero => exact fun w2 h2 => h w2 (g.trans h2)
  | succ f => exact fun w2 h2 => h w2 (g.trans h2)
theorem Env.sound : ∀ (f : Nat) (listed : Array Bool) (a : Act) (w : World), Env P md ops Q S w0 f listed a w → wpAny P md ops Q f listed a w
  | 0, _, _, w, h => h w (Fr.refl _ _)
  | f + 1, _, _, w, h => ⟨(h w (Fr.refl _ _)).1, fun i hi => wpOp_mono (fun a' w' hh => Env.sound f _ a' w' hh.2) ((h w (Fr.refl _ _)).2 i hi)⟩
/-- In whatever world above w0 the operation leaves v in its slot, and new blocks alone. -/
def EnvY (P : Program) (ops : Array Oper) (S : List Nat) (w0 : World) (o : Oper) (v : Value) (a : Act) : Prop :=
  (Region.wanted o (yielded ops a.tmps) = true ∧ ∀ w, Fr S w0 w → ∃ u, o.quietAt P a (fun w' => Fr [] w w') w u ∧ (o.dst = none ∨ u = v)) ∨
  (Region.wanted o (yielded ops a.tmps) = false ∧ v = undef)
theorem put_same {a : Act} {d : Option Tmp} {u v : Value} (h : d = none ∨ u = v) : a.put d u = a.put d v := by
  rcases h with rfl | rfl <;> rfl
theorem wp_of_quietAt {o : Oper} {a : Act} {w : World} {v : Value} {K : Act → World → Prop} (hu : o.quietAt P a (fun w' => Fr [] w w') w v) (h : ∀ w', Fr [] w w' → K (a.put o.dst v) w') : o.wp P a w K Q := by
  unfold Oper.quietAt at hu
  unfold Oper.wp
  generalize (execOp a.eval o).run P w = r at *
  cases r with
  | ok n w' =>
    cases n <;> simp only [Oper.quietUpon] at hu <;> simp only [Oper.upon]
    case value u => obtain ⟨e1, e2⟩ := hu; rw [e1, e2]; exact h _ (Fr.refl _ _)
    case skip => obtain ⟨e1, e2⟩ := hu; rw [e1, ← e2]; exact h _ (Fr.refl _ _)
    case enter f args => obtain ⟨e1, hc⟩ := hu; rw [e1]; exact hc.mono fun e w'' ⟨he, hw''⟩ => by subst he; exact h _ hw''
  | halt x w' => simp only [Oper.quietUpon] at hu
theorem EnvY.wpOp {i : Nat} {o : Oper} {v : Value} {a : Act} (hi : ops[i]? = some o) (hy : EnvY P ops S w0 o v a) {K : Act → World → Prop} {w : World} (hw : Fr S w0 w)
    (h : ∀ w', Fr [] w w' → K (a.put o.dst v) w') : wpOp P ops Q i K a w := by
  unfold Go.wpOp
  simp only [hi]
  rcases hy with ⟨hw1, hv⟩ | ⟨hw1, rfl⟩
  · simp only [hw1, if_true]
    obtain ⟨u, hu, he⟩ := hv w hw
    exact .inl (wp_of_quietAt hu fun w' hw' => by rw [put_same he]; exact h w' hw')
  · simp only [hw1, Bool.false_eq_true, if_false]; exact h w (Fr.refl _ _)
theorem EnvY.of_same {o : Oper} {v : Value} {a a' : Act} (hy : EnvY P ops S w0 o v a) (he : execOp a'.eval o = execOp a.eval o)
    (hw : Region.wanted o (yielded ops a'.tmps) = Region.wanted o (yielded ops a.tmps)) : EnvY P ops S w0 o v a' := by
  unfold EnvY Oper.quietAt at *
  rw [he, hw]; exact hy
/-- What another operation does is the same with this one's value in its slot, or not. -/
theorem EnvY.other {j : Nat} {oi oj : Oper} {v : Value} (hj : ops[j]? = some oj) (hap : oi.apart ops oj = true)
    (hsi : ∀ cs b, oi.op ≠ .select cs b) (hsj : ∀ cs b, oj.op ≠ .select cs b)
    (hQ : ∀ c a d v w, Q (.panic c) (a.put d v) w → Q (.panic c) a w) {K : Act → World → Prop} {a : Act} {w : World}
    (hy : EnvY P ops S w0 oi v a) (h : Go.wpOp P ops Q j K (a.put oi.dst v) w) :
    Go.wpOp P ops Q j (fun a' w' => EnvY P ops S w0 oi v a' ∧ K (a'.put oi.dst v) w') a w := by
  obtain ⟨h1, h2, h3⟩ := Oper.apart_spec hap
  have keep : ∀ (a : Act), EnvY P ops S w0 oi v a → ∀ u, EnvY P ops S w0 oi v (a.put oj.dst u) := fun a hy u =>
    hy.of_same (execOp_put oi hsi a oj.dst u h3) (wanted_put oi a oj.dst u h3)
  have keepD : ∀ d, EnvY P ops S w0 oi v { a with defers := d :: a.defers } := fun d => hy.of_same rfl rfl
  unfold Go.wpOp at *
  simp only [hj] at *
  rw [wanted_put oj a oi.dst v h1] at h
  by_cases hw : Region.wanted oj (yielded ops a.tmps) = true
  · rw [if_pos hw] at h ⊢
    refine h.imp (fun h => ?_) (fun ⟨hasks, hlets⟩ => ⟨by unfold Oper.asks at *; rw [execOp_put oj hsj a oi.dst v h1] at hasks; exact hasks, hlets⟩)
    unfold Oper.wp at *
    rw [execOp_put oj hsj a oi.dst v h1] at h
    generalize (execOp a.eval oj).run P w = r at *
    cases r with
    | ok n w' =>
      cases n <;> simp only [Oper.upon] at h ⊢
      case value u => exact ⟨keep a hy u, by rw [← Act.put_comm a v u h2]; exact h⟩
      case skip => exact ⟨keep a hy _, by rw [← Act.put_comm a v undef h2]; exact h⟩
      case defer d => exact ⟨keep _ (keepD d) _, by rw [← Act.put_comm _ v undef h2, ← Act.put_defers]; exact h⟩
      case enter f args =>
        refine Calls.mono h fun e w'' he => ?_
        cases e with
        | returned u => exact ⟨keep a hy u, by rw [← Act.put_comm a v u h2]; exact he⟩
        | panicked c => exact hQ _ _ _ _ _ he
        | outgrown => exact he
      case row row args => exact Rows.mono h fun u w'' he => ⟨keep a hy u, by rw [← Act.put_comm a v u h2]; exact he⟩
    | halt x w' =>
      cases x <;> simp only [Oper.upon] at h ⊢
      case panic u => exact hQ _ _ _ _ _ h
  · rw [if_neg hw] at h ⊢
    exact ⟨keep a hy _, by rw [← Act.put_comm a v undef h2]; exact h⟩
/-- It may be taken first. -/
theorem Env.first {i : Nat} {oi : Oper} {v : Value} (hi : ops[i]? = some oi) (hsel : Region.noSelect ops = true)
    (hQ : ∀ c a d v w, Q (.panic c) (a.put d v) w → Q (.panic c) a w) : ∀ (f : Nat) (listed : Array Bool) (a : Act) (w : World),
      (∀ j oj, ops[j]? = some oj → j ≠ i → listed.getD j true = false → (∀ e ∈ oj.after, Region.binds md e = true → e.on ≠ i) → oi.apart ops oj = true) →
      i ∈ Region.ready md ops listed → EnvY P ops S w0 oi v a → Fr S w0 w →
      Env P md ops Q S w0 f (listed.setIfInBounds i true) (a.put oi.dst v) w → Env P md ops Q S w0 (f + 1) listed a w
  | f, listed, a, w, hfree, hr, hy, hw, H => fun w2 h2 => by
    refine ⟨fun h => (by rw [h] at hr; cases hr), fun j hj => ?_⟩
    by_cases hji : j = i
    · subst hji; exact hy.wpOp hi (hw.then h2) fun w' hw' => ⟨(hw.then h2).then hw', H.more (h2.trans hw')⟩
    · have hj' := ready_mono (i := i) hj hji
      cases f with
      | zero => have := (H w2 h2).1; rw [this] at hj'; cases hj'
      | succ f =>
        have h1 := (H w2 h2).2 j hj'
        obtain ⟨hjun, oj, hoj, hall⟩ := mem_ready.1 hj
        have hnot : ∀ e ∈ oj.after, Region.binds md e = true → e.on ≠ i := fun e he hb heq => by
          have g1 := hall e he hb
          have g0 := (mem_ready.1 hr).1
          rw [heq] at g1
          rcases Nat.lt_or_ge i listed.size with h' | h'
          · simp [h'] at g0 g1; rw [g0] at g1; cases g1
          · simp [Array.getElem?_eq_none h'] at g1
        have g2 := hy.other hoj (hfree j oj hoj hji hjun hnot) (fun cs b => Region.noSelect_spec hsel i oi cs b hi) (fun cs b => Region.noSelect_spec hsel j oj cs b hoj) hQ h1
        have hfree' : ∀ k ok, ops[k]? = some ok → k ≠ i → (listed.setIfInBounds j true).getD k true = false →
            (∀ e ∈ ok.after, Region.binds md e = true → e.on ≠ i) → oi.apart ops ok = true := fun k ok hk hki hun hno => by
          refine hfree k ok hk hki ?_ hno
          by_cases hjk : j = k
          · subst hjk; exact hjun
          · rw [getD_set_ne true hjk] at hun; exact hun
        refine wpOp_mono (fun a' w' h3 => ⟨h3.2.1, Env.first hi hsel hQ f (listed.setIfInBounds j true) a' w' hfree' (ready_mono hr (Ne.symm hji)) h3.1 h3.2.1 ?_⟩) g2
        rw [Array.setIfInBounds_comm _ _ hji]
        exact h3.2.2
/-- The operations that a mask picks. -/
def sel : List Bool → List Oper → List Oper
  | true :: m, o :: r => o :: sel m r
  | false :: m, _ :: r => sel m r
  | _, _ => []
/-- Each may come up in its turn, and may be taken first; what has come up behind them. -/
def passB (md : Region.Mode) (ops : Array Oper) : Nat → List Bool → Array Bool → Bool
  | k, true :: m, listed => (Region.ready md ops listed).contains k && Region.free md ops listed k && passB md ops (k + 1) m (listed.setIfInBounds k true)
  | k, false :: m, listed => passB md ops (k + 1) m listed
  | _, [], _ => true
def markB : Nat → List Bool → Array Bool → Array Bool
  | k, true :: m, listed => markB (k + 1) m (listed.setIfInBounds k true)
  | k, false :: m, listed => markB (k + 1) m listed
  | _, [], listed => listed
def countB : List Bool → Nat
  | true :: m => countB m + 1
  | false :: m => countB m
  | [] => 0
/-- Each slot is written once, and is there. -/
def dstB (n : Nat) : List Oper → Bool
  | [] => true
  | o :: r => (match o.dst with | some d => decide (d < n) && r.all fun x => x.dst != some d | none => true) && dstB n r
theorem size_put (a : Act) (d : Option Tmp) (v : Value) : (a.put d v).tmps.size = a.tmps.size := by cases d <;> simp [Act.put]
/-- A slot that is written no more holds what it held. -/
theorem quiet_keeps {C : World → Prop} {aE : Act} {d : Nat} : ∀ (l : List Oper) (a : Act), (l.all fun x => x.dst != some d) = true → wpQuiet P ops C (fun a' => a' = aE) l a → aE.tmps[d]? = a.tmps[d]?
  | [], a, _, h => by rw [show a = aE from h]
  | o :: r, a, hd, h => by
    simp only [List.all_cons, Bool.and_eq_true] at hd
    have hput : ∀ v, (a.put o.dst v).tmps[d]? = a.tmps[d]? := fun v => by
      cases ho : o.dst with
      | none => rfl
      | some e =>
        have hne : e ≠ d := fun he => by subst he; rw [ho] at hd; simp at hd
        simp [Act.put, Array.getElem?_setIfInBounds_ne hne]
    unfold wpQuiet at h
    split at h
    · obtain ⟨v, _, h2⟩ := h; exact (quiet_keeps r _ hd.2 h2).trans (hput v)
    · exact (quiet_keeps r _ hd.2 h).trans (hput _)
theorem env_pass_list (hs : Region.noSelect ops = true) (hQ : ∀ c a d v w, Q (.panic c) (a.put d v) w → Q (.panic c) a w) {aE : Act} {n f : Nat} :
    ∀ (m : List Bool) (L : List Oper) (k : Nat) (listed : Array Bool) (a : Act) (w : World), (∀ j, L[j]? = ops[k + j]?) → passB md ops k m listed = true → dstB n (sel m L) = true → a.tmps.size = n → Fr S w0 w →
      (∀ wf, Fr S w0 wf → wpQuiet P ops (fun w' => ∃ s : In wf, w' = s.at_) (fun a' => a' = aE) (sel m L) a) → Env P md ops Q S w0 f (markB k m listed) aE w → Env P md ops Q S w0 (f + countB m) listed a w
  | [], L, k, listed, a, w, _, _, _, _, _, h, H => by
    have h0 : a = aE := by have := h w0 (Fr.refl _ _); cases L <;> exact this
    subst h0; exact H
  | false :: m, [], k, listed, a, w, hL, hB, hd, hn, hw, h, H => env_pass_list hs hQ m [] (k + 1) listed a w (fun j => by have := hL (j + 1); simpa [Nat.add_assoc, Nat.add_comm 1 j] using this) hB (by cases m with | nil => rfl | cons b m => cases b <;> rfl) hn hw (fun wf hf => by have := h wf hf; cases m with | nil => exact this | cons b m => cases b <;> exact this) H
  | false :: m, o :: L, k, listed, a, w, hL, hB, hd, hn, hw, h, H => env_pass_list hs hQ m L (k + 1) listed a w (fun j => by have := hL (j + 1); simpa [Nat.add_assoc, Nat.add_comm 1 j] using this) hB hd hn hw h H
  | true :: m, [], k, listed, a, w, hL, hB, _, _, _, _, _ => by
    exfalso
    simp only [passB, Bool.and_eq_true] at hB
    have hr : k ∈ Region.ready md ops listed := by simpa using hB.1.1
    obtain ⟨_, o, ho, _⟩ := mem_ready.1 hr
    have := hL 0
    simp [ho] at this
  | true :: m, o :: L, k, listed, a, w, hL, hB, hd, hn, hw, h, H => by
    have h0 : ops[k]? = some o := by simpa using (hL 0).symm
    simp only [passB, Bool.and_eq_true] at hB
    obtain ⟨⟨hr, hf⟩, hB'⟩ := hB
    simp only [sel, dstB, Bool.and_eq_true] at hd
    obtain ⟨hd1, hd2⟩ := hd
    -- the value, and what follows
    have key : ∃ v, EnvY P ops S w0 o v a ∧ ∀ wf, Fr S w0 wf → wpQuiet P ops (fun w' => ∃ s : In wf, w' = s.at_) (fun a' => a' = aE) (sel m L) (a.put o.dst v) := by
      by_cases hw1 : Region.wanted o (yielded ops a.tmps) = true
      · have h' : ∀ wf, Fr S w0 wf → o.quiet P a (fun w' => ∃ s : In wf, w' = s.at_) (wpQuiet P ops (fun w' => ∃ s : In wf, w' = s.at_) (fun a' => a' = aE) (sel m L)) := fun wf hf => by
          have := h wf hf
          simp only [sel, wpQuiet] at this
          rwa [if_pos hw1] at this
        obtain ⟨v, _, hv2⟩ := h' w0 (Fr.refl _ _)
        have same : ∀ wf, Fr S w0 wf → ∀ u, wpQuiet P ops (fun w' => ∃ s : In wf, w' = s.at_) (fun a' => a' = aE) (sel m L) (a.put o.dst u) → o.dst = none ∨ u = v := fun wf hf u hu => by
          cases hod : o.dst with
          | none => exact .inl rfl
          | some d =>
            rw [hod] at hd1 hu hv2
            simp only [Bool.and_eq_true, decide_eq_true_eq] at hd1
            have e1 := quiet_keeps (sel m L) _ hd1.2 hu
            have e2 := quiet_keeps (sel m L) _ hd1.2 hv2
            have hlt : d < a.tmps.size := by rw [hn]; exact hd1.1
            rw [e1] at e2
            simp [Act.put, hlt] at e2
            exact .inr e2
        refine ⟨v, .inl ⟨hw1, fun wf hf => ?_⟩, fun wf hf => ?_⟩
        · obtain ⟨u, hu1, hu2⟩ := h' wf hf
          refine ⟨u, ?_, same wf hf u hu2⟩
          have hq := hu1 wf ⟨⟨wf, Fr.refl _ _⟩, rfl⟩
          unfold Oper.quietAt at hq ⊢
          generalize (execOp a.eval o).run P wf = r at *
          cases r with
          | ok x w' =>
            cases x <;> simp only [Oper.quietUpon] at hq ⊢
            case value => exact hq
            case skip => exact hq
            case enter g args => exact ⟨hq.1, hq.2.mono fun e w'' ⟨he, s, hs⟩ => ⟨he, hs ▸ s.fr⟩⟩
          | halt x w' => exact hq
        · obtain ⟨u, _, hu2⟩ := h' wf hf
          rw [← put_same (same wf hf u hu2)]; exact hu2
      · refine ⟨undef, .inr ⟨by simpa using hw1, rfl⟩, fun wf hf => ?_⟩
        have := h wf hf
        simp only [sel, wpQuiet] at this
        rwa [if_neg hw1] at this
    obtain ⟨v, hy, hK⟩ := key
    exact Env.first h0 hs hQ (f + countB m) listed a w (Region.free_spec h0 hf) (by simpa using hr) hy hw
      (env_pass_list hs hQ m L (k + 1) _ _ w (fun j => by have := hL (j + 1); simpa [Nat.add_assoc, Nat.add_comm 1 j] using this) hB' hd2 (by rw [size_put]; exact hn) hw hK H)
end
section
variable {P : Program} {l : List Oper} {Q : Exit → Act → World → Prop} {w0 : World} {S : List Nat}
theorem wp_region_env {id : Nat} {a : Act} {w : World} (hm : P.follows .mixedOrders = true) (S : List Nat) (h : ∀ w1, Fr [] w w1 → Env P .any l.toArray Q S w l.length (Array.replicate l.length false) a w1) : (Code.region id l.toArray true).wp P Q a w :=
  wp_region_any hm (by simpa using Env.sound _ _ _ _ (h w.drew (Fr.refl [] w).drew))
/-- The operations that the mask picks are taken first, in the order of the text. -/
theorem env_pass (m : List Bool) (f : Nat) {g n : Nat} {listed listed' : Array Bool} {a : Act} {w : World} (hf : f + countB m = g) (hs : Region.noSelect l.toArray = true) (hB : passB .any l.toArray 0 m listed = true)
    (hd : dstB n (sel m l) = true) (hn : a.tmps.size = n) (hl : markB 0 m listed = listed') (hQ : ∀ c a d v w, Q (.panic c) (a.put d v) w → Q (.panic c) a w) (hw : Fr S w0 w)
    (h : ∃ aE, (∀ wf, Fr S w0 wf → wpQuiet P l.toArray (fun w' => ∃ s : In wf, w' = s.at_) (fun a' => a' = aE) (sel m l) a) ∧ Env P .any l.toArray Q S w0 f listed' aE w) : Env P .any l.toArray Q S w0 g listed a w := by
  subst hf; subst hl
  obtain ⟨aE, h, H⟩ := h
  exact env_pass_list hs hQ m l 0 listed a w (by simp) hB hd hn hw h H
/-- Q where a list of operations ends in a way of its own; K where it goes through. -/
def Nx (Q : Exit → Act → World → Prop) (K : Act → World → Prop) : Exit → Act → World → Prop
  | .normal, a, w => K a w
  | e, a, w => Q e a w
theorem wpOp_of_list {i : Nat} {o : Oper} {a : Act} {w : World} {K : Act → World → Prop} (ho : l[i]? = some o) (hl : LetsOut (Nx Q K) → LetsOut Q) (h : wpList P l.toArray (Nx Q K) [o] a w) : wpOp P l.toArray Q i K a w := by
  unfold wpOp
  simp only [List.getElem?_toArray, ho]
  simp only [wpList] at h
  split
  · rename_i hw
    rw [if_pos hw] at h
    refine h.imp (fun h => ?_) (fun ⟨h1, h2⟩ => ⟨h1, hl h2⟩)
    unfold Oper.wp at *
    generalize (execOp a.eval o).run P w = r at *
    cases r with
    | ok n w' =>
      cases n <;> simp only [Oper.upon] at h ⊢ <;> exact h
    | halt x w' => cases x <;> simp only [Oper.upon] at h ⊢ <;> exact h
  · rename_i hw
    rw [if_neg hw] at h
    exact h
theorem letsOut_nx {K : Act → World → Prop} : LetsOut (Nx Q K) → LetsOut Q := fun ⟨a, w, h⟩ => ⟨a, w, h⟩
/-- Those that may come up, each in whatever world there is then. -/
theorem env_ready (rs : List Nat) {f : Nat} {listed : Array Bool} {a : Act} {w : World} (hr : Region.ready .any l.toArray listed = rs) (hne : rs ≠ [])
    (h : ∀ w2, Fr [] w w2 → ∀ i ∈ rs, ∀ o, l[i]? = some o → wpList P l.toArray (Nx Q (fun a' w' => Fr S w0 w' ∧ Env P .any l.toArray Q S w0 f (listed.setIfInBounds i true) a' w')) [o] a w2) : Env P .any l.toArray Q S w0 (f + 1) listed a w := by
  intro w2 h2
  refine ⟨fun h0 => absurd (hr.symm.trans h0) hne, fun i hi => ?_⟩
  have hi' := hi
  rw [hr] at hi'
  obtain ⟨_, o, ho, _⟩ := mem_ready.1 hi
  have ho' : l[i]? = some o := by simpa using ho
  exact wpOp_of_list ho' letsOut_nx (h w2 h2 i hi' o ho')
theorem env_one (i : Nat) {o : Oper} {f : Nat} {listed listed' : Array Bool} {a : Act} {w : World} (hr : Region.ready .any l.toArray listed = [i]) (ho : l[i]? = some o) (hl : listed.setIfInBounds i true = listed')
    (h : ∀ w2, Fr [] w w2 → wpList P l.toArray (Nx Q (fun a' w' => Fr S w0 w' ∧ Env P .any l.toArray Q S w0 f listed' a' w')) [o] a w2) : Env P .any l.toArray Q S w0 (f + 1) listed a w := by
  subst hl
  refine env_ready [i] hr (by simp) fun w2 h2 j hj x hx => ?_
  simp only [List.mem_singleton] at hj
  subst hj
  rw [ho] at hx
  cases hx
  exact h w2 h2
theorem env_done {f : Nat} {listed : Array Bool} {a : Act} {w : World} (hr : Region.ready .any l.toArray listed = []) (h : ∀ w2, Fr [] w w2 → Q .normal a w2) : Env P .any l.toArray Q S w0 f listed a w := by
  cases f with
  | zero => exact fun w2 h2 => ⟨hr, h w2 h2⟩
  | succ f => exact fun w2 h2 => ⟨fun _ => h w2 h2, fun i hi => by rw [hr] at hi; cases hi⟩
theorem nx_normal {K : Act → World → Prop} {a : Act} {w : World} (h : K a w) : Nx Q K .normal a w := h
/-- Sublists. -/
def subs : List Nat → List (List Nat)
  | [] => [[]]
  | x :: r => subs r ++ (subs r).map (x :: ·)
theorem mem_subs {is rem : List Nat} (h : rem.Sublist is) : rem ∈ subs is := by
  induction h with
  | slnil => simp [subs]
  | cons a _ ih => simp [subs, ih]
  | cons_cons a _ ih => simp [subs, ih]
/-- What is listed when of a bag of operations those of rem are left. -/
def bagMask (L0 : Array Bool) (is rem : List Nat) : Array Bool := is.foldl (fun L i => if rem.contains i then L else L.setIfInBounds i true) L0
def bagB (md : Region.Mode) (ops : Array Oper) (L0 : Array Bool) (is : List Nat) : Bool :=
  (subs is).all fun rem => (rem == [] || Region.ready md ops (bagMask L0 is rem) == rem) && rem.all fun i => (bagMask L0 is rem).setIfInBounds i true == bagMask L0 is (rem.erase i)
/-- A bag of operations that may come in any order among themselves, none of which writes a slot: I holds whatever are left. -/
theorem env_bag (is : List Nat) (L0 : Array Bool) (I : List Nat → World → Prop) {f : Nat} {a : Act} (hB : bagB .any l.toArray L0 is = true)
    (hmore : ∀ rem w w2, I rem w → Fr [] w w2 → I rem w2)
    (hstep : ∀ rem w, rem.Sublist is → I rem w → ∀ i ∈ rem, ∀ o, l[i]? = some o → wpList P l.toArray (Nx Q (fun a' w' => a' = a ∧ Fr S w0 w' ∧ I (rem.erase i) w')) [o] a w)
    (hend : ∀ w, I [] w → Env P .any l.toArray Q S w0 f (bagMask L0 is []) a w) :
    ∀ (n : Nat) (rem : List Nat) (w : World), rem.length = n → rem.Sublist is → I rem w → Env P .any l.toArray Q S w0 (f + n) (bagMask L0 is rem) a w := by
  intro n
  induction n with
  | zero => intro rem w hl hs hI; obtain rfl := List.eq_nil_of_length_eq_zero hl; exact hend w hI
  | succ n ih =>
    intro rem w hl hs hI
    have hb := List.all_eq_true.1 hB rem (mem_subs hs)
    simp only [Bool.and_eq_true, Bool.or_eq_true, beq_iff_eq] at hb
    have hne : rem ≠ [] := by intro e; subst e; simp at hl
    have hr := hb.1.resolve_left hne
    have he := List.all_eq_true.1 hb.2
    intro w2 h2
    refine ⟨fun h0 => absurd (hr.symm.trans h0) hne, fun i hi => ?_⟩
    have hi' := hi
    rw [hr] at hi'
    obtain ⟨_, o, ho, _⟩ := mem_ready.1 hi
    have ho' : l[i]? = some o := by simpa using ho
    have hi2 := he i hi'
    simp only [beq_iff_eq] at hi2
    rw [hi2]
    refine wpOp_mono (fun a' w' ⟨h1, h2, h3⟩ => ?_) (wpOp_of_list ho' letsOut_nx (hstep rem w2 hs (hmore _ _ _ hI h2) i hi' o ho'))
    subst h1
    exact ⟨h2, ih _ _ (by rw [List.length_erase_of_mem hi']; omega) ((List.erase_sublist).trans hs) h3⟩
end
end Go.Proofs.Ytfchbbhopfganaa.Ar
