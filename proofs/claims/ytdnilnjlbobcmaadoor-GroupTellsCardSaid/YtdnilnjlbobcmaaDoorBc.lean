/- Texts that several proofs of this seat share, one behind the other: Dr, Cmp, Cmp2, Rot, Sym, Feeds, AppT, Stab, ValT, AppI, ValI, Sort8, RKeys8, Keys8, Stand9. -/
import Derived.Test.YtdnilnjlbobcmaaDoorBa
import Derived.Sort.Grow
import Derived.Test.YtdnilnjlbobcmaaDoorBb
import Derived.Test.YtdnilnjlbobcmaaDoorChecked
import Derived.Deep.RegionWith
import Derived.Test.YtdnilnjlbobcmaaDoorIter8
import Derived.Shelf.SlSortCmp.WholeK
import Derived.RangeFuncBound
import Derived.Shelf.SlIterI.Collect
import Derived.Lib.SlKeysI
/- As Fr and Env, and the draws only grow: what a call leaves is the world ahead of it, some draws and some new blocks on. -/

namespace Go.Proofs.YtdnilnjlbobcmaaDoor.Dr
open Go.RowKit
structure Fr (S : List Nat) (w w' : World) : Prop where
  os : w'.os = w.os
  tape : w'.tape = w.tape
  output : w'.output = w.output
  size : w.heap.size ≤ w'.heap.size
  block : ∀ k, k < w.heap.size → k ∉ S → w'.heap[k]? = w.heap[k]?
  drawn : w.drawn ≤ w'.drawn
theorem Fr.refl (S : List Nat) (w : World) : Fr S w w := ⟨rfl, rfl, rfl, Nat.le_refl _, fun _ _ _ => rfl, Nat.le_refl _⟩
theorem Fr.trans {S : List Nat} {a b c : World} (h : Fr S a b) (k : Fr S b c) : Fr S a c :=
  ⟨k.os.trans h.os, k.tape.trans h.tape, k.output.trans h.output, Nat.le_trans h.size k.size, fun i hi hn => (k.block i (Nat.lt_of_lt_of_le hi h.size) hn).trans (h.block i hi hn), Nat.le_trans h.drawn k.drawn⟩
theorem Fr.mono {S T : List Nat} {a b : World} (h : Fr S a b) (hs : ∀ k, k ∈ S → k ∈ T) : Fr T a b :=
  ⟨h.os, h.tape, h.output, h.size, fun i hi hn => h.block i hi (fun e => hn (hs i e)), h.drawn⟩
theorem Fr.drew {S : List Nat} {a w : World} (h : Fr S a w) : Fr S a w.drew := ⟨h.os, h.tape, h.output, h.size, h.block, Nat.le_succ_of_le h.drawn⟩
theorem Fr.alloc {S : List Nat} {a w : World} (h : Fr S a w) (o : Obj) : Fr S a (w.alloc o) :=
  h.trans ⟨rfl, rfl, rfl, by simp, fun k hk _ => Below.heap_alloc w o k hk, Nat.le_refl _⟩
theorem Fr.plain {S : List Nat} {a b : World} (h : Fr S a b) : Ar.Fr S a b := ⟨h.os, h.tape, h.output, h.size, h.block⟩
theorem Fr.cell {S : List Nat} {w w' : World} (f : Fr S w w') {b i : Nat} {v : Value} (h : w.cell? ⟨b, i, none⟩ = some v) (hn : b ∉ S) : w'.cell? ⟨b, i, none⟩ = some v := f.plain.cell h hn
/-- The world ahead of it, some draws and some new blocks on. -/
theorem Fr.grow {w w' : World} (h : Fr [] w w') : ∃ q os, w' = Go.Sort.grow (w.drewN q) os := by
  obtain ⟨heap, tape, drawn, os, output⟩ := w
  obtain ⟨heap', tape', drawn', os', output'⟩ := w'
  obtain ⟨h1, h2, h3, h4, h5, h6⟩ := h
  simp only at h1 h2 h3 h4 h5 h6
  subst h1; subst h2; subst h3
  refine ⟨drawn' - drawn, heap'.extract heap.size heap'.size, ?_⟩
  unfold Go.Sort.grow World.drewN
  simp only [World.mk.injEq, and_true, true_and]
  refine ⟨?_, by omega⟩
  apply Array.ext'
  apply List.ext_getElem?
  intro i
  rw [Array.toList_append, Array.toList_extract]
  by_cases hi : i < heap.size
  · have := h5 i hi (by simp)
    rw [List.getElem?_append_left (by simpa using hi)]
    simpa using this
  · rw [List.getElem?_append_right (by simpa using hi)]
    simp only [List.extract_eq_take_drop, Array.length_toList, List.getElem?_take, List.getElem?_drop]
    split
    · congr 1; omega
    · rw [List.getElem?_eq_none]; simp; omega
theorem wpQuiet_mono {P : Program} {ops : Array Oper} {C : World → Prop} {Q Q' : Act → Prop} (h : ∀ a, Q a → Q' a) : ∀ (l : List Oper) (a : Act), wpQuiet P ops C Q l a → wpQuiet P ops C Q' l a
  | [], a, hh => h a hh
  | o :: rest, a, hh => by
    unfold wpQuiet at hh ⊢
    split
    · rename_i hw; rw [if_pos hw] at hh; exact Oper.quiet_mono (wpQuiet_mono h rest) hh
    · rename_i hw; rw [if_neg hw] at hh; exact wpQuiet_mono h rest _ hh
theorem Fr.then {S : List Nat} {a b c : World} (h : Fr S a b) (k : Fr [] b c) : Fr S a c := h.trans (k.mono (by simp))
theorem Fr.drewN {S : List Nat} {a w : World} (h : Fr S a w) (n : Nat) : Fr S a (w.drewN n) := ⟨h.os, h.tape, h.output, h.size, h.block, Nat.le_trans h.drawn (Nat.le_add_right _ _)⟩
/-- The worlds that a region may come to: all that was there is as it was. -/
def In (w : World) : Type := { x : World // Fr [] w x }
def In.at_ {w : World} (s : In w) : World := s.1
theorem In.fr {w : World} (s : In w) : Fr [] w s.at_ := s.2
instance (w : World) : Nonempty (In w) := ⟨⟨w, Fr.refl _ _⟩⟩
theorem In.cell {w : World} {b i : Nat} {v : Value} (h : w.cell? ⟨b, i, none⟩ = some v) (s : In w) : s.at_.cell? ⟨b, i, none⟩ = some v := s.fr.cell h (by simp)
/-- One walk in the order of the text serves every order, where operations read and calls make new blocks alone. -/
theorem wp_region_in {P : Program} {id : Nat} {Q : Exit → Act → World → Prop} {a : Act} {w : World} {l : List Oper} (hm : P.follows .mixedOrders = true) (hB : Region.lexB .any l.toArray = true)
    (h : wpQuiet P l.toArray (fun w' => ∃ s : In w, w' = s.at_) (fun a' => ∀ w', Fr [] w w' → Q .normal a' w') l a) : (Code.region id l.toArray true).wp P Q a w :=
  wp_region_quiet (C := fun w' => ∃ s : In w, w' = s.at_) hm hB ⟨⟨_, (Fr.refl [] w).drew⟩, rfl⟩ (wpQuiet_mono (fun a h w' hw => by obtain ⟨s, rfl⟩ := hw; exact h _ s.fr) _ _ (by simpa using h))
theorem Calls.in_ {P : Program} {f : FuncId} {args : Array Value} {w : World} {s : In w} {v : Value}
    (h : Calls P f args s.at_ fun e w' => e = .returned v ∧ Fr [] s.at_ w') : Calls P f args s.at_ fun e w'' => e = .returned v ∧ ∃ s' : In w, w'' = s'.at_ :=
  h.mono fun _ _ ⟨he, hf⟩ => ⟨he, ⟨⟨_, s.fr.trans hf⟩, rfl⟩⟩
theorem Calls.in_same {P : Program} {f : FuncId} {args : Array Value} {w : World} {s : In w} {v : Value}
    (h : Calls P f args s.at_ fun e w' => e = .returned v ∧ s.at_ = w') : Calls P f args s.at_ fun e w'' => e = .returned v ∧ ∃ s' : In w, w'' = s'.at_ :=
  h.mono fun _ _ ⟨he, hf⟩ => ⟨he, ⟨s, hf.symm⟩⟩
section
variable {P : Program} {ops : Array Oper} {Q : Exit → Act → World → Prop} {md : Region.Mode} {w0 : World} {S : List Nat}
/-- Whatever order is picked, whatever new blocks are laid between any two operations; blocks of w0 stay. -/
def Env (P : Program) (md : Region.Mode) (ops : Array Oper) (Q : Exit → Act → World → Prop) (S : List Nat) (w0 : World) : Nat → Array Bool → Act → World → Prop
  | 0, listed, a, w => ∀ w2, Fr [] w w2 → Region.ready md ops listed = [] ∧ Q .normal a w2
  | f + 1, listed, a, w => ∀ w2, Fr [] w w2 → (Region.ready md ops listed = [] → Q .normal a w2) ∧
      ∀ i ∈ Region.ready md ops listed, wpOp P ops Q i (fun a' w' => Fr S w0 w' ∧ Env P md ops Q S w0 f (listed.setIfInBounds i true) a' w') a w2
theorem Env.more {f : Nat} {listed : Array Bool} {a : Act} {w w' : World} (h : Env P md ops Q S w0 f listed a w) (g : Fr [] w w') : Env P md ops Q S w0 f listed a w' := by
  cases f with
  | zero => exact fun w2 h2 => h w2 (g.trans h2)
  | succ f => exact fun w2 h2 => h w2 (g.trans h2)
theorem Env.sound : ∀ (f : Nat) (listed : Array Bool) (a : Act) (w : World), Env P md ops Q S w0 f listed a w → wpAny P md ops Q f listed a w
  | 0, _, _, w, h => h w (Fr.refl _ _)
  | f + 1, _, _, w, h => ⟨(h w (Fr.refl _ _)).1, fun i hi => wpOp_mono (fun a' w' hh => Env.sound f _ a' w' hh.2) ((h w (Fr.refl _ _)).2 i hi)⟩
/-- In whatever world above w0 the operation leaves v in its slot, and new blocks alone. -/
def EnvY (P : Program) (ops : Array Oper) (S : List Nat) (w0 : World) (o : Oper) (v : Value) (a : Act) : Prop :=
  (Region.wanted o (yielded ops a.tmps) = true ∧ ∀ w, Fr S w0 w → ∃ u, o.quietAt P a (fun w' => Fr [] w w') w u ∧ (o.dst = none ∨ u = v)) ∨
  (Region.wanted o (yielded ops a.tmps) = false ∧ v = undef)
theorem put_same {a : Act} {d : Option Tmp} {u v : Value} (h : d = none ∨ u = v) : a.put d u = a.put d v := by
  rcases h with rfl | rfl <;> rfl
theorem wp_of_quietAt {o : Oper} {a : Act} {w : World} {v : Value} {K : Act → World → Prop} (hu : o.quietAt P a (fun w' => Fr [] w w') w v) (h : ∀ w', Fr [] w w' → K (a.put o.dst v) w') : o.wp P a w K Q := by
  unfold Oper.quietAt at hu
  unfold Oper.wp
  generalize (execOp a.eval o).run P w = r at *
  cases r with
  | ok n w' =>
    cases n <;> simp only [Oper.quietUpon] at hu <;> simp only [Oper.upon]
    case value u => obtain ⟨e1, e2⟩ := hu; rw [e1, e2]; exact h _ (Fr.refl _ _)
    case skip => obtain ⟨e1, e2⟩ := hu; rw [e1, ← e2]; exact h _ (Fr.refl _ _)
    case enter f args => obtain ⟨e1, hc⟩ := hu; rw [e1]; exact hc.mono fun e w'' ⟨he, hw''⟩ => by subst he; exact h _ hw''
  | halt x w' => simp only [Oper.quietUpon] at hu
theorem EnvY.wpOp {i : Nat} {o : Oper} {v : Value} {a : Act} (hi : ops[i]? = some o) (hy : EnvY P ops S w0 o v a) {K : Act → World → Prop} {w : World} (hw : Fr S w0 w)
    (h : ∀ w', Fr [] w w' → K (a.put o.dst v) w') : wpOp P ops Q i K a w := by
  unfold Go.wpOp
  simp only [hi]
  rcases hy with ⟨hw1, hv⟩ | ⟨hw1, rfl⟩
  · simp only [hw1, if_true]
    obtain ⟨u, hu, he⟩ := hv w hw
    exact .inl (wp_of_quietAt hu fun w' hw' => by rw [put_same he]; exact h w' hw')
  · simp only [hw1, Bool.false_eq_true, if_false]; exact h w (Fr.refl _ _)
theorem EnvY.of_same {o : Oper} {v : Value} {a a' : Act} (hy : EnvY P ops S w0 o v a) (he : execOp a'.eval o = execOp a.eval o)
    (hw : Region.wanted o (yielded ops a'.tmps) = Region.wanted o (yielded ops a.tmps)) : EnvY P ops S w0 o v a' := by
  unfold EnvY Oper.quietAt at *
  rw [he, hw]; exact hy
/-- What another operation does is the same with this one's value in its slot, or not. -/
theorem EnvY.other {j : Nat} {oi oj : Oper} {v : Value} (hj : ops[j]? = some oj) (hap : oi.apart ops oj = true)
    (hsi : ∀ cs b, oi.op ≠ .select cs b) (hsj : ∀ cs b, oj.op ≠ .select cs b)
    (hQ : ∀ c a d v w, Q (.panic c) (a.put d v) w → Q (.panic c) a w) {K : Act → World → Prop} {a : Act} {w : World}
    (hy : EnvY P ops S w0 oi v a) (h : Go.wpOp P ops Q j K (a.put oi.dst v) w) :
    Go.wpOp P ops Q j (fun a' w' => EnvY P ops S w0 oi v a' ∧ K (a'.put oi.dst v) w') a w := by
  obtain ⟨h1, h2, h3⟩ := Oper.apart_spec hap
  have keep : ∀ (a : Act), EnvY P ops S w0 oi v a → ∀ u, EnvY P ops S w0 oi v (a.put oj.dst u) := fun a hy u =>
    hy.of_same (execOp_put oi hsi a oj.dst u h3) (wanted_put oi a oj.dst u h3)
  have keepD : ∀ d, EnvY P ops S w0 oi v { a with defers := d :: a.defers } := fun d => hy.of_same rfl rfl
  unfold Go.wpOp at *
  simp only [hj] at *
  rw [wanted_put oj a oi.dst v h1] at h
  by_cases hw : Region.wanted oj (yielded ops a.tmps) = true
  · rw [if_pos hw] at h ⊢
    refine h.imp (fun h => ?_) (fun ⟨hasks, hlets⟩ => ⟨by unfold Oper.asks at *; rw [execOp_put oj hsj a oi.dst v h1] at hasks; exact hasks, hlets⟩)
    unfold Oper.wp at *
    rw [execOp_put oj hsj a oi.dst v h1] at h
    generalize (execOp a.eval oj).run P w = r at *
    cases r with
    | ok n w' =>
      cases n <;> simp only [Oper.upon] at h ⊢
      case value u => exact ⟨keep a hy u, by rw [← Act.put_comm a v u h2]; exact h⟩
      case skip => exact ⟨keep a hy _, by rw [← Act.put_comm a v undef h2]; exact h⟩
      case defer d => exact ⟨keep _ (keepD d) _, by rw [← Act.put_comm _ v undef h2, ← Act.put_defers]; exact h⟩
      case enter f args =>
        refine Calls.mono h fun e w'' he => ?_
        cases e with
        | returned u => exact ⟨keep a hy u, by rw [← Act.put_comm a v u h2]; exact he⟩
        | panicked c => exact hQ _ _ _ _ _ he
        | outgrown => exact he
      case row row args => exact Rows.mono h fun u w'' he => ⟨keep a hy u, by rw [← Act.put_comm a v u h2]; exact he⟩
    | halt x w' =>
      cases x <;> simp only [Oper.upon] at h ⊢
      case panic u => exact hQ _ _ _ _ _ h
  · rw [if_neg hw] at h ⊢
    exact ⟨keep a hy _, by rw [← Act.put_comm a v undef h2]; exact h⟩
/-- It may be taken first. -/
theorem Env.first {i : Nat} {oi : Oper} {v : Value} (hi : ops[i]? = some oi) (hsel : Region.noSelect ops = true)
    (hQ : ∀ c a d v w, Q (.panic c) (a.put d v) w → Q (.panic c) a w) : ∀ (f : Nat) (listed : Array Bool) (a : Act) (w : World),
      (∀ j oj, ops[j]? = some oj → j ≠ i → listed.getD j true = false → (∀ e ∈ oj.after, Region.binds md e = true → e.on ≠ i) → oi.apart ops oj = true) →
      i ∈ Region.ready md ops listed → EnvY P ops S w0 oi v a → Fr S w0 w →
      Env P md ops Q S w0 f (listed.setIfInBounds i true) (a.put oi.dst v) w → Env P md ops Q S w0 (f + 1) listed a w
  | f, listed, a, w, hfree, hr, hy, hw, H => fun w2 h2 => by
    refine ⟨fun h => (by rw [h] at hr; cases hr), fun j hj => ?_⟩
    by_cases hji : j = i
    · subst hji; exact hy.wpOp hi (hw.then h2) fun w' hw' => ⟨(hw.then h2).then hw', H.more (h2.trans hw')⟩
    · have hj' := ready_mono (i := i) hj hji
      cases f with
      | zero => have := (H w2 h2).1; rw [this] at hj'; cases hj'
      | succ f =>
        have h1 := (H w2 h2).2 j hj'
        obtain ⟨hjun, oj, hoj, hall⟩ := mem_ready.1 hj
        have hnot : ∀ e ∈ oj.after, Region.binds md e = true → e.on ≠ i := fun e he hb heq => by
          have g1 := hall e he hb
          have g0 := (mem_ready.1 hr).1
          rw [heq] at g1
          rcases Nat.lt_or_ge i listed.size with h' | h'
          · simp [h'] at g0 g1; rw [g0] at g1; cases g1
          · simp [Array.getElem?_eq_none h'] at g1
        have g2 := hy.other hoj (hfree j oj hoj hji hjun hnot) (fun cs b => Region.noSelect_spec hsel i oi cs b hi) (fun cs b => Region.noSelect_spec hsel j oj cs b hoj) hQ h1
        have hfree' : ∀ k ok, ops[k]? = some ok → k ≠ i → (listed.setIfInBounds j true).getD k true = false →
            (∀ e ∈ ok.after, Region.binds md e = true → e.on ≠ i) → oi.apart ops ok = true := fun k ok hk hki hun hno => by
          refine hfree k ok hk hki ?_ hno
          by_cases hjk : j = k
          · subst hjk; exact hjun
          · rw [getD_set_ne true hjk] at hun; exact hun
        refine wpOp_mono (fun a' w' h3 => ⟨h3.2.1, Env.first hi hsel hQ f (listed.setIfInBounds j true) a' w' hfree' (ready_mono hr (Ne.symm hji)) h3.1 h3.2.1 ?_⟩) g2
        rw [Array.setIfInBounds_comm _ _ hji]
        exact h3.2.2
/-- The operations that a mask picks. -/
def sel : List Bool → List Oper → List Oper
  | true :: m, o :: r => o :: sel m r
  | false :: m, _ :: r => sel m r
  | _, _ => []
/-- Each may come up in its turn, and may be taken first; what has come up behind them. -/
def passB (md : Region.Mode) (ops : Array Oper) : Nat → List Bool → Array Bool → Bool
  | k, true :: m, listed => (Region.ready md ops listed).contains k && Region.free md ops listed k && passB md ops (k + 1) m (listed.setIfInBounds k true)
  | k, false :: m, listed => passB md ops (k + 1) m listed
  | _, [], _ => true
def markB : Nat → List Bool → Array Bool → Array Bool
  | k, true :: m, listed => markB (k + 1) m (listed.setIfInBounds k true)
  | k, false :: m, listed => markB (k + 1) m listed
  | _, [], listed => listed
def countB : List Bool → Nat
  | true :: m => countB m + 1
  | false :: m => countB m
  | [] => 0
/-- Each slot is written once, and is there. -/
def dstB (n : Nat) : List Oper → Bool
  | [] => true
  | o :: r => (match o.dst with | some d => decide (d < n) && r.all fun x => x.dst != some d | none => true) && dstB n r
theorem size_put (a : Act) (d : Option Tmp) (v : Value) : (a.put d v).tmps.size = a.tmps.size := by cases d <;> simp [Act.put]
/-- A slot that is written no more holds what it held. -/
theorem quiet_keeps {C : World → Prop} {aE : Act} {d : Nat} : ∀ (l : List Oper) (a : Act), (l.all fun x => x.dst != some d) = true → wpQuiet P ops C (fun a' => a' = aE) l a → aE.tmps[d]? = a.tmps[d]?
  | [], a, _, h => by rw [show a = aE from h]
  | o :: r, a, hd, h => by
    simp only [List.all_cons, Bool.and_eq_true] at hd
    have hput : ∀ v, (a.put o.dst v).tmps[d]? = a.tmps[d]? := fun v => by
      cases ho : o.dst with
      | none => rfl
      | some e =>
        have hne : e ≠ d := fun he => by subst he; rw [ho] at hd; simp at hd
        simp [Act.put, Array.getElem?_setIfInBounds_ne hne]
    unfold wpQuiet at h
    split at h
    · obtain ⟨v, _, h2⟩ := h; exact (quiet_keeps r _ hd.2 h2).trans (hput v)
    · exact (quiet_keeps r _ hd.2 h).trans (hput _)
theorem env_pass_list (hs : Region.noSelect ops = true) (hQ : ∀ c a d v w, Q (.panic c) (a.put d v) w → Q (.panic c) a w) {aE : Act} {n f : Nat} :
    ∀ (m : List Bool) (L : List Oper) (k : Nat) (listed : Array Bool) (a : Act) (w : World), (∀ j, L[j]? = ops[k + j]?) → passB md ops k m listed = true → dstB n (sel m L) = true → a.tmps.size = n → Fr S w0 w →
      (∀ wf, Fr S w0 wf → wpQuiet P ops (fun w' => ∃ s : In wf, w' = s.at_) (fun a' => a' = aE) (sel m L) a) → Env P md ops Q S w0 f (markB k m listed) aE w → Env P md ops Q S w0 (f + countB m) listed a w
  | [], L, k, listed, a, w, _, _, _, _, _, h, H => by
    have h0 : a = aE := by have := h w0 (Fr.refl _ _); cases L <;> exact this
    subst h0; exact H
  | false :: m, [], k, listed, a, w, hL, hB, hd, hn, hw, h, H => env_pass_list hs hQ m [] (k + 1) listed a w (fun j => by have := hL (j + 1); simpa [Nat.add_assoc, Nat.add_comm 1 j] using this) hB (by cases m with | nil => rfl | cons b m => cases b <;> rfl) hn hw (fun wf hf => by have := h wf hf; cases m with | nil => exact this | cons b m => cases b <;> exact this) H
  | false :: m, o :: L, k, listed, a, w, hL, hB, hd, hn, hw, h, H => env_pass_list hs hQ m L (k + 1) listed a w (fun j => by have := hL (j + 1); simpa [Nat.add_assoc, Nat.add_comm 1 j] using this) hB hd hn hw h H
  | true :: m, [], k, listed, a, w, hL, hB, _, _, _, _, _ => by
    exfalso
    simp only [passB, Bool.and_eq_true] at hB
    have hr : k ∈ Region.ready md ops listed := by simpa using hB.1.1
    obtain ⟨_, o, ho, _⟩ := mem_ready.1 hr
    have := hL 0
    simp [ho] at this
  | true :: m, o :: L, k, listed, a, w, hL, hB, hd, hn, hw, h, H => by
    have h0 : ops[k]? = some o := by simpa using (hL 0).symm
    simp only [passB, Bool.and_eq_true] at hB
    obtain ⟨⟨hr, hf⟩, hB'⟩ := hB
    simp only [sel, dstB, Bool.and_eq_true] at hd
    obtain ⟨hd1, hd2⟩ := hd
    -- the value, and what follows
    have key : ∃ v, EnvY P ops S w0 o v a ∧ ∀ wf, Fr S w0 wf → wpQuiet P ops (fun w' => ∃ s : In wf, w' = s.at_) (fun a' => a' = aE) (sel m L) (a.put o.dst v) := by
      by_cases hw1 : Region.wanted o (yielded ops a.tmps) = true
      · have h' : ∀ wf, Fr S w0 wf → o.quiet P a (fun w' => ∃ s : In wf, w' = s.at_) (wpQuiet P ops (fun w' => ∃ s : In wf, w' = s.at_) (fun a' => a' = aE) (sel m L)) := fun wf hf => by
          have := h wf hf
          simp only [sel, wpQuiet] at this
          rwa [if_pos hw1] at this
        obtain ⟨v, _, hv2⟩ := h' w0 (Fr.refl _ _)
        have same : ∀ wf, Fr S w0 wf → ∀ u, wpQuiet P ops (fun w' => ∃ s : In wf, w' = s.at_) (fun a' => a' = aE) (sel m L) (a.put o.dst u) → o.dst = none ∨ u = v := fun wf hf u hu => by
          cases hod : o.dst with
          | none => exact .inl rfl
          | some d =>
            rw [hod] at hd1 hu hv2
            simp only [Bool.and_eq_true, decide_eq_true_eq] at hd1
            have e1 := quiet_keeps (sel m L) _ hd1.2 hu
            have e2 := quiet_keeps (sel m L) _ hd1.2 hv2
            have hlt : d < a.tmps.size := by rw [hn]; exact hd1.1
            rw [e1] at e2
            simp [Act.put, hlt] at e2
            exact .inr e2
        refine ⟨v, .inl ⟨hw1, fun wf hf => ?_⟩, fun wf hf => ?_⟩
        · obtain ⟨u, hu1, hu2⟩ := h' wf hf
          refine ⟨u, ?_, same wf hf u hu2⟩
          have hq := hu1 wf ⟨⟨wf, Fr.refl _ _⟩, rfl⟩
          unfold Oper.quietAt at hq ⊢
          generalize (execOp a.eval o).run P wf = r at *
          cases r with
          | ok x w' =>
            cases x <;> simp only [Oper.quietUpon] at hq ⊢
            case value => exact hq
            case skip => exact hq
            case enter g args => exact ⟨hq.1, hq.2.mono fun e w'' ⟨he, s, hs⟩ => ⟨he, hs ▸ s.fr⟩⟩
          | halt x w' => exact hq
        · obtain ⟨u, _, hu2⟩ := h' wf hf
          rw [← put_same (same wf hf u hu2)]; exact hu2
      · refine ⟨undef, .inr ⟨by simpa using hw1, rfl⟩, fun wf hf => ?_⟩
        have := h wf hf
        simp only [sel, wpQuiet] at this
        rwa [if_neg hw1] at this
    obtain ⟨v, hy, hK⟩ := key
    exact Env.first h0 hs hQ (f + countB m) listed a w (Region.free_spec h0 hf) (by simpa using hr) hy hw
      (env_pass_list hs hQ m L (k + 1) _ _ w (fun j => by have := hL (j + 1); simpa [Nat.add_assoc, Nat.add_comm 1 j] using this) hB' hd2 (by rw [size_put]; exact hn) hw hK H)
end
section
variable {P : Program} {l : List Oper} {Q : Exit → Act → World → Prop} {w0 : World} {S : List Nat}
theorem wp_region_env {id : Nat} {a : Act} {w : World} (hm : P.follows .mixedOrders = true) (S : List Nat) (h : ∀ w1, Fr [] w w1 → Env P .any l.toArray Q S w l.length (Array.replicate l.length false) a w1) : (Code.region id l.toArray true).wp P Q a w :=
  wp_region_any hm (by simpa using Env.sound _ _ _ _ (h w.drew (Fr.refl [] w).drew))
/-- The operations that the mask picks are taken first, in the order of the text. -/
theorem env_pass (m : List Bool) (f : Nat) {g n : Nat} {listed listed' : Array Bool} {a : Act} {w : World} (hf : f + countB m = g) (hs : Region.noSelect l.toArray = true) (hB : passB .any l.toArray 0 m listed = true)
    (hd : dstB n (sel m l) = true) (hn : a.tmps.size = n) (hl : markB 0 m listed = listed') (hQ : ∀ c a d v w, Q (.panic c) (a.put d v) w → Q (.panic c) a w) (hw : Fr S w0 w)
    (h : ∃ aE, (∀ wf, Fr S w0 wf → wpQuiet P l.toArray (fun w' => ∃ s : In wf, w' = s.at_) (fun a' => a' = aE) (sel m l) a) ∧ Env P .any l.toArray Q S w0 f listed' aE w) : Env P .any l.toArray Q S w0 g listed a w := by
  subst hf; subst hl
  obtain ⟨aE, h, H⟩ := h
  exact env_pass_list hs hQ m l 0 listed a w (by simp) hB hd hn hw h H
/-- Q where a list of operations ends in a way of its own; K where it goes through. -/
def Nx (Q : Exit → Act → World → Prop) (K : Act → World → Prop) : Exit → Act → World → Prop
  | .normal, a, w => K a w
  | e, a, w => Q e a w
theorem wpOp_of_list {i : Nat} {o : Oper} {a : Act} {w : World} {K : Act → World → Prop} (ho : l[i]? = some o) (hl : LetsOut (Nx Q K) → LetsOut Q) (h : wpList P l.toArray (Nx Q K) [o] a w) : wpOp P l.toArray Q i K a w := by
  unfold wpOp
  simp only [List.getElem?_toArray, ho]
  simp only [wpList] at h
  split
  · rename_i hw
    rw [if_pos hw] at h
    refine h.imp (fun h => ?_) (fun ⟨h1, h2⟩ => ⟨h1, hl h2⟩)
    unfold Oper.wp at *
    generalize (execOp a.eval o).run P w = r at *
    cases r with
    | ok n w' =>
      cases n <;> simp only [Oper.upon] at h ⊢ <;> exact h
    | halt x w' => cases x <;> simp only [Oper.upon] at h ⊢ <;> exact h
  · rename_i hw
    rw [if_neg hw] at h
    exact h
theorem letsOut_nx {K : Act → World → Prop} : LetsOut (Nx Q K) → LetsOut Q := fun ⟨a, w, h⟩ => ⟨a, w, h⟩
/-- Those that may come up, each in whatever world there is then. -/
theorem env_ready (rs : List Nat) {f : Nat} {listed : Array Bool} {a : Act} {w : World} (hr : Region.ready .any l.toArray listed = rs) (hne : rs ≠ [])
    (h : ∀ w2, Fr [] w w2 → ∀ i ∈ rs, ∀ o, l[i]? = some o → wpList P l.toArray (Nx Q (fun a' w' => Fr S w0 w' ∧ Env P .any l.toArray Q S w0 f (listed.setIfInBounds i true) a' w')) [o] a w2) : Env P .any l.toArray Q S w0 (f + 1) listed a w := by
  intro w2 h2
  refine ⟨fun h0 => absurd (hr.symm.trans h0) hne, fun i hi => ?_⟩
  have hi' := hi
  rw [hr] at hi'
  obtain ⟨_, o, ho, _⟩ := mem_ready.1 hi
  have ho' : l[i]? = some o := by simpa using ho
  exact wpOp_of_list ho' letsOut_nx (h w2 h2 i hi' o ho')
theorem env_one (i : Nat) {o : Oper} {f : Nat} {listed listed' : Array Bool} {a : Act} {w : World} (hr : Region.ready .any l.toArray listed = [i]) (ho : l[i]? = some o) (hl : listed.setIfInBounds i true = listed')
    (h : ∀ w2, Fr [] w w2 → wpList P l.toArray (Nx Q (fun a' w' => Fr S w0 w' ∧ Env P .any l.toArray Q S w0 f listed' a' w')) [o] a w2) : Env P .any l.toArray Q S w0 (f + 1) listed a w := by
  subst hl
  refine env_ready [i] hr (by simp) fun w2 h2 j hj x hx => ?_
  simp only [List.mem_singleton] at hj
  subst hj
  rw [ho] at hx
  cases hx
  exact h w2 h2
theorem env_done {f : Nat} {listed : Array Bool} {a : Act} {w : World} (hr : Region.ready .any l.toArray listed = []) (h : ∀ w2, Fr [] w w2 → Q .normal a w2) : Env P .any l.toArray Q S w0 f listed a w := by
  cases f with
  | zero => exact fun w2 h2 => ⟨hr, h w2 h2⟩
  | succ f => exact fun w2 h2 => ⟨fun _ => h w2 h2, fun i hi => by rw [hr] at hi; cases hi⟩
theorem nx_normal {K : Act → World → Prop} {a : Act} {w : World} (h : K a w) : Nx Q K .normal a w := h
end
end Go.Proofs.YtdnilnjlbobcmaaDoor.Dr
/- Package keep's compare: cmp.Compare, cmp.Or. -/

namespace Go.Proofs.YtdnilnjlbobcmaaDoor.Kp
open Go.RowKit Go.Proofs.YtdnilnjlbobcmaaDoor.Mx
set_option linter.unusedVariables false
set_option linter.unusedSimpArgs false
def cfZ (x y : Int) : Int := if x < y then -1 else if y < x then 1 else 0
theorem isNaN_any (x : Int) (w : World) : Calls Tryd.prog 67 #[.int .i64 x] w fun e w' => e = .returned (.bool false) ∧ w' = w := by
  go_enter Tryd.func67, Tryd.ntmps67
  go_wp2_with fail
  go_ret
  exact ⟨by simp, rfl⟩
set_option maxHeartbeats 1600000 in
theorem cmp_any (x y : Int) (w : World) : Calls Tryd.prog 60 #[.int .i64 x, .int .i64 y] w fun e w' => e = .returned (.int .i64 (cfZ x y)) ∧ w' = w := by
  go_enter Tryd.func60, Tryd.ntmps60
  unfold cfZ
  by_cases h1 : x < y
  · go_wp2_with (go_at_call 67; refine (isNaN_any _ _).mono ?_; rintro e w' ⟨rfl, rfl⟩)
    go_ret
    exact ⟨by simp [h1], rfl⟩
  · by_cases h2 : y < x
    · go_wp2_with (go_at_call 67; refine (isNaN_any _ _).mono ?_; rintro e w' ⟨rfl, rfl⟩)
      go_ret
      exact ⟨by simp [h1, h2], rfl⟩
    · go_wp2_with (go_at_call 67; refine (isNaN_any _ _).mono ?_; rintro e w' ⟨rfl, rfl⟩)
      go_ret
      exact ⟨by simp [h1, h2], rfl⟩
/-- The first that isn't zero. -/
def orZ (a c : Int) : Int := if a = 0 then c else a
theorem or_any (a c : Int) (b : Nat) (w : World) (h0 : w.cell? ⟨b, 0, none⟩ = some (.int .i64 a)) (h1 : w.cell? ⟨b, 1, none⟩ = some (.int .i64 c)) :
    Calls Tryd.prog 59 #[.slice (some ⟨b, 0, none⟩) 2 2] w fun e w' => e = .returned (.int .i64 (orZ a c)) ∧ w' = w := by
  unfold orZ
  go_enter Tryd.func59, Tryd.ntmps59
  go_wp2_with fail
  go_loopw [8] (fun x wr => ∃ i : Nat, i ≤ 2 ∧ x = .int .i64 (i : Nat) ∧ wr = w ∧ (0 < i → a = 0) ∧ (1 < i → c = 0)) (fun x _ => 2 - (match x with | .int _ z => z.toNat | _ => 0))
  case atStart => exact ⟨0, by omega, rfl, rfl, by omega, by omega⟩
  case round =>
    obtain ⟨i, hi, rfl, rfl, ha, hc⟩ := hrel
    rcases (show i = 0 ∨ i = 1 ∨ i = 2 by omega) with rfl | rfl | rfl
    · by_cases hz : a = 0
      · go_wp2_with fail
        go_roundw
        case rel => exact ⟨1, by omega, by simp, by simp, fun _ => hz, by omega⟩
        case measure => simp
      · go_wp2_with fail
        go_ret
        exact ⟨rfl, rfl⟩
    · have hz := ha (by omega)
      by_cases hz2 : c = 0
      · go_wp2_with fail
        go_roundw
        case rel => exact ⟨2, by omega, by simp, by simp, fun _ => hz, fun _ => hz2⟩
        case measure => simp
      · go_wp2_with fail
        go_ret
        exact ⟨rfl, rfl⟩
    · have hz := ha (by omega)
      have hz2 := hc (by omega)
      go_wp2_with fail
      go_ret
      exact ⟨by simp [hz, hz2], rfl⟩
end Go.Proofs.YtdnilnjlbobcmaaDoor.Kp
/- Package keep's compare. -/

namespace Go.Proofs.YtdnilnjlbobcmaaDoor.Kp
open Go.RowKit Go.Proofs.YtdnilnjlbobcmaaDoor.Mx Go.Proofs.YtdnilnjlbobcmaaDoor.Dr
set_option linter.unusedVariables false
set_option linter.unusedSimpArgs false
theorem cells3 {w : World} {b : Nat} {T : TypeId} {x0 x1 x2 : Value} (h : w.heap[b]? = some (.cells #[x0, x1, x2] T (0, 0))) : w.cell? ⟨b, 0, none⟩ = some x0 ∧ w.cell? ⟨b, 1, none⟩ = some x1 ∧ w.cell? ⟨b, 2, none⟩ = some x2 := by
  refine ⟨?_, ?_, ?_⟩ <;> (unfold World.cell?; simp [h])
theorem cells2 {w : World} {b : Nat} {T : TypeId} {x0 x1 : Value} (h : w.heap[b]? = some (.cells #[x0, x1] T (0, 0))) : w.cell? ⟨b, 0, none⟩ = some x0 ∧ w.cell? ⟨b, 1, none⟩ = some x1 := by
  refine ⟨?_, ?_⟩ <;> (unfold World.cell?; simp [h])
theorem cfZ_or (x y : It) : orZ (cfZ x.k y.k) (cfZ x.v y.v) = cfT x y := by
  unfold orZ cfZ cfT
  by_cases h1 : x.k < y.k
  · simp [h1]
  · by_cases h2 : y.k < x.k
    · simp [h1, h2]
    · simp [h1, h2]
set_option maxRecDepth 100000 in
set_option maxHeartbeats 1600000 in
theorem compare_any (x y : It) (w : World) : Calls Tryd.prog 49 #[.agg (fT x).toArray, .agg (fT y).toArray] w fun e w' => e = .returned (.int .i64 (cfT x y)) ∧ Fr [] w w' := by
  rw [← cfZ_or]
  go_enter Tryd.func49, Tryd.ntmps49
  go_wp2_with fail
  have B1 := Go.heap_alloc_new (w.alloc (.cells (fT x).toArray 43)) (.cells (fT y).toArray 43)
  have B0 := (Below.heap_alloc (w.alloc (.cells (fT x).toArray 43)) (.cells (fT y).toArray 43) w.heap.size (by simp)).trans (Go.heap_alloc_new w (.cells (fT x).toArray 43))
  have F0 : Fr [] w ((w.alloc (.cells (fT x).toArray 43)).alloc (.cells (fT y).toArray 43)) := ((Fr.refl _ _).alloc _).alloc _
  rw [show (w.alloc (.cells (fT x).toArray 43)).heap.size = w.heap.size + 1 by simp] at *
  generalize (w.alloc (.cells (fT x).toArray 43)).alloc (.cells (fT y).toArray 43) = w1 at *
  obtain ⟨a0, a1, -⟩ := cells3 B0
  obtain ⟨b0, b1, -⟩ := cells3 B1
  clear B0 B1
  refine wp_region_env (by kernel_rfl) [] (fun w2 F2 => ?_)
  refine env_pass [true, true, true, true, true, true, true, true, true, true, false, false, false] 3 (n := 17) rfl (by kernel_rfl) (by kernel_rfl) (by kernel_rfl) rfl rfl (fun _ _ d _ _ h => by cases d <;> exact h) F2 ?_
  apply Exists.intro
  refine ⟨fun wf Ff => ?_, ?_⟩
  · have k0 := fun (s : In wf) => In.cell (Ff.cell a0 (by simp)) s
    have k1 := fun (s : In wf) => In.cell (Ff.cell a1 (by simp)) s
    have k2 := fun (s : In wf) => In.cell (Ff.cell b0 (by simp)) s
    have k3 := fun (s : In wf) => In.cell (Ff.cell b1 (by simp)) s
    simp only [sel]
    repeat (go_big_quiet_step ((first | (go_at_call_of 60 (Value.int IntKind.i64 x.k); exact Calls.in_same ((cmp_any x.k y.k _).mono fun e w' h => ⟨h.1, h.2.symm⟩)) | (go_at_call_of 60 (Value.int IntKind.i64 x.v); exact Calls.in_same ((cmp_any x.v y.v _).mono fun e w' h => ⟨h.1, h.2.symm⟩)))))
    exact wpQuiet_nil rfl
  refine env_one 10 (by kernel_rfl) rfl rfl (fun w3 F3 => ?_)
  go_wp2_with fail
  have D3 := Go.heap_alloc_new w3 (.cells #[.int .i64 (cfZ x.k y.k), .int .i64 (cfZ x.v y.v)] 3)
  have F4 := (((F0.trans F2).trans F3).alloc (.cells #[.int .i64 (cfZ x.k y.k), .int .i64 (cfZ x.v y.v)] 3))
  have F5 := (F2.trans F3).alloc (.cells #[.int .i64 (cfZ x.k y.k), .int .i64 (cfZ x.v y.v)] 3)
  generalize hb : w3.heap.size = b3 at *
  generalize w3.alloc (.cells #[.int .i64 (cfZ x.k y.k), .int .i64 (cfZ x.v y.v)] 3) = w4 at *
  refine nx_normal ⟨F5, ?_⟩
  refine env_one 11 (by kernel_rfl) rfl rfl (fun w5 F6 => ?_)
  obtain ⟨d0, d1⟩ := cells2 D3
  have d0' := F6.cell d0 (by simp)
  have d1' := F6.cell d1 (by simp)
  go_wp2_with (go_at_call 59; refine (or_any _ _ _ _ d0' d1').mono ?_; rintro e w' ⟨rfl, rfl⟩)
  refine nx_normal ⟨F5.trans F6, ?_⟩
  refine env_one 12 (by kernel_rfl) rfl rfl (fun w7 F7 => ?_)
  go_wp2_with fail
  refine nx_normal ⟨(F5.trans F6).trans F7, ?_⟩
  refine env_done (by kernel_rfl) (fun w8 F8 => ?_)
  go_wp2_with fail
  go_ret
  exact ⟨rfl, ((F4.trans F6).trans F7).trans F8⟩
/-- Both numbers are ints. -/
def Wf (k f : Int) : Prop := (Lit.int .i64 k).wf = true ∧ (Lit.int .i64 f).wf = true
end Go.Proofs.YtdnilnjlbobcmaaDoor.Kp
/- slices' stable sort at items: its exchanges. -/

namespace Go.Proofs.YtdnilnjlbobcmaaDoor.Kp
open Go.RowKit Go.Shelf Go.Lib Go.Sort Go.Proofs.YtdnilnjlbobcmaaDoor.Mx
set_option linter.unusedVariables false
set_option linter.unusedSimpArgs false
theorem it_at {w : World} {blk off : Nat} {d : Array It} (h : HoldsK fT 3 w blk off d) {i : Nat} (hi : i < d.size) {x : It} (hx : d[i]! = x) :
    w.cell? ⟨blk, off + i * 3, none⟩ = some (.int .i64 x.k) ∧ w.cell? ⟨blk, off + i * 3 + 1, none⟩ = some (.int .i64 x.v) ∧ w.cell? ⟨blk, off + i * 3 + 2, none⟩ = some (.int .i64 x.d) ∧
      w.frozen? ⟨blk, off + i * 3, none⟩ = false ∧ w.frozen? ⟨blk, off + i * 3 + 1, none⟩ = false ∧ w.frozen? ⟨blk, off + i * 3 + 2, none⟩ = false := by
  have a0 := HoldsK.cell h (c := 0) hi (by omega)
  have a1 := HoldsK.cell h (c := 1) hi (by omega)
  have a2 := HoldsK.cell h (c := 2) hi (by omega)
  rw [hx] at a0 a1 a2
  exact ⟨a0.1, a1.1, a2.1, a0.2, a1.2, a2.2⟩
theorem drew_setCell (w : World) (a : Addr) (v : Value) : w.drew.setCell a v = (w.setCell a v).drew := rfl
theorem add11 (n : Nat) : n + 1 + 1 = n + 2 := rfl
theorem cmpLays (blk off size : Nat) (w : World) : CmpLays Tryd.prog 49 #[] fT 3 cfT blk off size w :=
  fun m os dk _ x y => (compare_any x y _).mono fun e w' h => ⟨h.1, h.2.grow⟩
theorem cmp_grown (x y : It) (w : World) (n : Nat) (os : Array Obj) :
    Calls Tryd.prog 49 #[.agg #[.int .i64 x.k, .int .i64 x.v, .int .i64 x.d], .agg #[.int .i64 y.k, .int .i64 y.v, .int .i64 y.d]] (grow (w.drewN n) os) fun e w' => e = .returned (.int .i64 (cfT x y)) ∧ ∃ q os', w' = grow ((grow (w.drewN n) os).drewN q) os' :=
  (compare_any x y _).mono fun e w' h => ⟨h.1, h.2.grow⟩
set_option maxHeartbeats 1600000 in
set_option maxRecDepth 1000000 in
theorem swapRange_any (g : Nat) (cb : Array Value) (blk off cap a b n : Nat) (d0 d : Array It) (w0 w : World) (R : RowK fT 3 w0 blk off d0) (hs : d0.size = d.size) (S : SWK fT 3 w0 blk off d w) (hab : a + n ≤ b) (hb : b + n ≤ d.size) (hsz : d.size < 4611686018427387904) :
    Calls Tryd.prog 90 #[.slice (some ⟨blk, off, none⟩) d.size cap, .int .i64 a, .int .i64 b, .int .i64 n, .func (.func g) #[] cb] w fun e w' =>
      e = .returned (.tuple #[]) ∧ ∃ d', Swr a b n d d' ∧ SWK fT 3 w0 blk off d' w' := by
  have S0 : Aside (SWK fT 3 w0 blk off d w) := S
  have RR : Aside (RowK fT 3 w0 blk off d0) := R
  clear S R
  go_enter Tryd.func90, Tryd.ntmps90
  go_wp2_with fail
  go_loopg [10] n (fun kx s8 wr => ∃ (i : Nat) (dk : Array It), s8 = .int .i64 i ∧ i ≤ n ∧ n - i ≤ kx ∧ Aside (SWK fT 3 w0 blk off dk wr) ∧ Aside (Swr a b i d dk))
  case atStart => exact ⟨0, d, rfl, by omega, by omega, S0, Swr.zero a b d⟩
  case round =>
    clear S0
    obtain ⟨i, dk, rfl, hi, hkx, S1, HW⟩ := hrel
    by_cases hlt : i < n
    · have hltz : (i : Int) < (n : Int) := by omega
      have hds : dk.size = d.size := HW.out.size
      have W2 : Aside (Swr a b (i + 1) d (swp dk (a + i) (b + i))) := HW.out.more (by omega) (by omega)
      go_wp2_with fail
      have eA : ((a : Int) + (i : Int)).toNat = (a + i) := by omega
      have pA : (0 : Int) ≤ (a : Int) + (i : Int) := by omega
      have bA : (a : Int) + (i : Int) < (d.size : Int) := by omega
      have rA : IntKind.i64.wrap ((a : Int) + (i : Int)) = (a : Int) + (i : Int) := by rw [IntKind.wrap_i64]; omega
      have eB : ((b : Int) + (i : Int)).toNat = (b + i) := by omega
      have pB : (0 : Int) ≤ (b : Int) + (i : Int) := by omega
      have bB : (b : Int) + (i : Int) < (d.size : Int) := by omega
      have rB : IntKind.i64.wrap ((b : Int) + (i : Int)) = (b : Int) + (i : Int) := by rw [IntKind.wrap_i64]; omega
      have S2 : Aside (SWK fT 3 w0 blk off (swp dk (a + i) (b + i)) ((wr.drew.setCells blk (off + (a + i) * 3) (fT dk[(b + i)]!)).setCells blk (off + (b + i) * 3) (fT dk[(a + i)]!))) := S1.out.swapped RR.out (a + i) (b + i) (by omega) (by omega)
      have SH := S1.out.holds RR.out.hblk RR.out.hH (by omega)
      obtain ⟨vx, hvx⟩ : ∃ v, dk[(a + i)]! = v := ⟨_, rfl⟩
      obtain ⟨vy, hvy⟩ : ∃ v, dk[(b + i)]! = v := ⟨_, rfl⟩
      obtain ⟨x0, x1, x2, fx0, fx1, fx2⟩ := it_at SH (i := (a + i)) (by omega) hvx
      obtain ⟨y0, y1, y2, fy0, fy1, fy2⟩ := it_at SH (i := (b + i)) (by omega) hvy
      clear SH
      rw [hvx, hvy] at S2
      simp only [fT, World.setCells, drew_setCell, add11] at S2
      clear hvx hvy
      have mixed : Tryd.prog.follows .mixedOrders = true := by kernel_rfl
      clear S1
      go_wp2_with fail
      go_big_region_o
      clear x0 x1 x2 fx0 fx1 fx2 y0 y1 y2 fy0 fy1 fy2 mixed
      generalize (((((((wr.setCell ⟨blk, off + (a + i) * 3, none⟩ (.int .i64 vy.k)).setCell ⟨blk, off + (a + i) * 3 + 1, none⟩ (.int .i64 vy.v)).setCell ⟨blk, off + (a + i) * 3 + 2, none⟩ (.int .i64 vy.d)).setCell ⟨blk, off + (b + i) * 3, none⟩ (.int .i64 vx.k)).setCell ⟨blk, off + (b + i) * 3 + 1, none⟩ (.int .i64 vx.v)).setCell ⟨blk, off + (b + i) * 3 + 2, none⟩ (.int .i64 vx.d)).drew) = w2 at S2 ⊢
      go_wp2_with fail
      go_roundg (n - (i + 1))
      case measure => omega
      case rel => exact ⟨i + 1, _, by simp, by omega, by omega, S2, W2⟩
    · have hltz : ¬ (i : Int) < (n : Int) := by omega
      go_wp2_with fail
      go_end0
      obtain rfl : i = n := by omega
      exact ⟨rfl, dk, HW.out, S1.out⟩
set_option maxHeartbeats 1600000 in
set_option maxRecDepth 1000000 in
theorem rotate_any (g : Nat) (cb : Array Value) (blk off cap a m b : Nat) (d0 d : Array It) (w0 w : World) (R : RowK fT 3 w0 blk off d0) (hs : d0.size = d.size) (S : SWK fT 3 w0 blk off d w) (ham : a < m) (hmb : m < b) (hb : b ≤ d.size) (hsz : d.size < 4611686018427387904) :
    Calls Tryd.prog 88 #[.slice (some ⟨blk, off, none⟩) d.size cap, .int .i64 a, .int .i64 m, .int .i64 b, .func (.func g) #[] cb] w fun e w' =>
      e = .returned (.tuple #[]) ∧ ∃ d', Rot a m b d d' ∧ SWK fT 3 w0 blk off d' w' := by
  have S0 : Aside (SWK fT 3 w0 blk off d w) := S
  have RR : Aside (RowK fT 3 w0 blk off d0) := R
  clear S R
  go_enter Tryd.func88, Tryd.ntmps88
  go_wp2_with fail
  go_loopg [10, 11] (b - a) (fun kx s10 s11 wr => ∃ (i j : Nat) (dk : Array It), s10 = .int .i64 i ∧ s11 = .int .i64 j ∧ 0 < i ∧ 0 < j ∧ i ≤ m ∧ a + i ≤ m ∧ m + j ≤ b ∧ i + j ≤ kx + 1 ∧ Aside (SWK fT 3 w0 blk off dk wr) ∧ Aside (RotTo a m b i j d dk))
  case atStart => exact ⟨m - a, b - m, d, by go_num, by go_num, by omega, by omega, by omega, by omega, by omega, by omega, S0, RotTo.start d (by omega) (by omega)⟩
  case round =>
    clear S0
    obtain ⟨i, j, dk, rfl, rfl, hi, hj, him, ham2, hjb, hkx, S1, HW⟩ := hrel
    have hds : dk.size = d.size := HW.out.size
    by_cases heq : i = j
    · subst heq
      go_wp2_with fail
      have H := swapRange_any g cb blk off cap (m - i) m i d0 dk w0 wr RR.out (by omega) S1.out (by omega) (by omega) (by omega)
      rw [hds, show ((m - i : Nat) : Int) = (m : Int) - (i : Int) by omega] at H
      go_wp2_with (go_at_call 90; refine H.mono ?_; rintro e w' ⟨rfl, d', h1, h2⟩)
      go_end0
      exact ⟨rfl, d', HW.out.eq him h1, h2⟩
    · have hne : ((i : Int) != (j : Int)) = true := by simp; omega
      have hneq : ¬ (i : Int) = (j : Int) := by omega
      by_cases hlt : j < i
      · have hltz : (j : Int) < (i : Int) := by omega
        have H := swapRange_any g cb blk off cap (m - i) m j d0 dk w0 wr RR.out (by omega) S1.out (by omega) (by omega) (by omega)
        rw [hds, show ((m - i : Nat) : Int) = (m : Int) - (i : Int) by omega] at H
        go_wp2_with (go_at_call 90; refine H.mono ?_; rintro e w' ⟨rfl, d', h1, h2⟩)
        clear H
        have W2 : Aside (RotTo a m b (i - j) j d d') := HW.out.gt hlt him h1
        have S2 : Aside (SWK fT 3 w0 blk off d' w') := h2
        clear h1 h2
        go_wp2_with fail
        go_roundg (i - j + j - 1)
        case measure => omega
        case rel => exact ⟨i - j, j, d', by go_num, rfl, by omega, by omega, by omega, by omega, by omega, by omega, S2, W2⟩
      · have hltz : ¬ (j : Int) < (i : Int) := by omega
        have H := swapRange_any g cb blk off cap (m - i) (m + j - i) i d0 dk w0 wr RR.out (by omega) S1.out (by omega) (by omega) (by omega)
        rw [hds, show ((m - i : Nat) : Int) = (m : Int) - (i : Int) by omega, show ((m + j - i : Nat) : Int) = (m : Int) + (j : Int) - (i : Int) by omega] at H
        go_wp2_with (go_at_call 90; refine H.mono ?_; rintro e w' ⟨rfl, d', h1, h2⟩)
        clear H
        have W2 : Aside (RotTo a m b i (j - i) d d') := HW.out.lt (by omega) him h1
        have S2 : Aside (SWK fT 3 w0 blk off d' w') := h2
        clear h1 h2
        go_wp2_with fail
        go_roundg (i + (j - i) - 1)
        case measure => omega
        case rel => exact ⟨i, j - i, d', rfl, by go_num, by omega, by omega, by omega, by omega, by omega, by omega, S2, W2⟩
end Go.Proofs.YtdnilnjlbobcmaaDoor.Kp
/- slices' stable sort at items: its merging. -/

namespace Go.Proofs.YtdnilnjlbobcmaaDoor.Kp
open Go.RowKit Go.Shelf Go.Lib Go.Sort Go.Proofs.YtdnilnjlbobcmaaDoor.Mx
set_option linter.unusedVariables false
set_option linter.unusedSimpArgs false
/-- What a merging of a .. m and m .. b leaves. -/
def Mg (blk off cap : Nat) (d0 d : Array It) (w0 w : World) (a m b : Nat) : Prop :=
  Calls Tryd.prog 81 #[.slice (some ⟨blk, off, none⟩) d.size cap, .int .i64 a, .int .i64 m, .int .i64 b, .func (.func 49) #[] #[]] w fun e w' =>
    e = .returned (.tuple #[]) ∧ ∃ d', (SrtI a b d' ∧ Mrg a b d d') ∧ SWK fT 3 w0 blk off d' w'
set_option maxHeartbeats 6400000 in
set_option maxRecDepth 1000000 in
theorem symA (blk off cap a m b : Nat) (d0 d : Array It) (w0 w : World) (R : RowK fT 3 w0 blk off d0) (hs : d0.size = d.size) (S : SWK fT 3 w0 blk off d w) (hm1 : m = a + 1) (hab : m < b) (hr : SrtI m b d) (hb : b ≤ d.size) (hsz : d.size < 4611686018427387904) :
    Mg blk off cap d0 d w0 w a m b := by
  have S0 : Aside (SWK fT 3 w0 blk off d w) := S
  have RR : Aside (RowK fT 3 w0 blk off d0) := R
  have HR : Aside (SrtI m b d) := hr
  have HM : Aside (m = a + 1) := hm1
  have hma : (m : Int) - (a : Int) = 1 := by omega
  have ham : a + 1 ≤ m := by omega
  have ham2 : m ≤ a + 1 := by omega
  clear hr hm1
  clear S R
  unfold Mg
  go_enter Tryd.func81, Tryd.ntmps81
  go_wp2_with fail
  go_loopg [10, 11] (b - m) (fun kx s10 s11 wr => ∃ lo hi : Nat, s10 = .int .i64 lo ∧ s11 = .int .i64 hi ∧ m ≤ lo ∧ lo ≤ hi ∧ hi ≤ b ∧ hi - lo ≤ kx ∧ Aside (SWK fT 3 w0 blk off d wr) ∧ Aside (lo = m ∨ ltT d[lo - 1]! d[a]!) ∧ Aside (hi = b ∨ ¬ ltT d[hi]! d[a]!))
  case atStart => exact ⟨m, b, rfl, rfl, by omega, by omega, by omega, by omega, S0, .inl rfl, .inl rfl⟩
  case round =>
    clear S0
    obtain ⟨lo, hi, rfl, rfl, h1, h2, h3, hkx, S1, HL, HH⟩ := hrel
    by_cases hlt : lo < hi
    · have hltz : (lo : Int) < (hi : Int) := by omega
      have eA : (((lo : Int) + (hi : Int)) / 2).toNat = ((lo + hi) / 2) := by omega
      have pA : (0 : Int) ≤ ((lo : Int) + (hi : Int)) / 2 := by omega
      have bA : ((lo : Int) + (hi : Int)) / 2 < (d.size : Int) := by omega
      have rA : IntKind.i64.wrap (((lo : Int) + (hi : Int)) / 2) = ((lo : Int) + (hi : Int)) / 2 := by rw [IntKind.wrap_i64]; omega
      have eB : ((a : Int)).toNat = a := by omega
      have pB : (0 : Int) ≤ (a : Int) := by omega
      have bB : (a : Int) < (d.size : Int) := by omega
      have rB : IntKind.i64.wrap ((a : Int)) = (a : Int) := by rw [IntKind.wrap_i64]; omega
      have SH := S1.out.holds RR.out.hblk RR.out.hH (by omega)
      have hbl := S1.out.lt RR.out.hblk
      obtain ⟨vx, hvx⟩ : ∃ v, d[((lo + hi) / 2)]! = v := ⟨_, rfl⟩
      obtain ⟨vy, hvy⟩ : ∃ v, d[a]! = v := ⟨_, rfl⟩
      obtain ⟨x0, x1, x2, -, -, -⟩ := it_at SH (i := ((lo + hi) / 2)) (by omega) hvx
      obtain ⟨y0, y1, y2, -, -, -⟩ := it_at SH (i := a) (by omega) hvy
      have gx0 := fun n os => cell_grown (w := wr) (by exact hbl) x0 n os
      have gx1 := fun n os => cell_grown (w := wr) (by exact hbl) x1 n os
      have gx2 := fun n os => cell_grown (w := wr) (by exact hbl) x2 n os
      have gy0 := fun n os => cell_grown (w := wr) (by exact hbl) y0 n os
      have gy1 := fun n os => cell_grown (w := wr) (by exact hbl) y1 n os
      have gy2 := fun n os => cell_grown (w := wr) (by exact hbl) y2 n os
      have hcg := fun n os => cmp_grown vx vy wr n os
      have CLS : Aside (∀ n os, SWK fT 3 w0 blk off d (grow (wr.drewN n) os)) := fun n os => S1.out.grown n os
      have HV : Aside (d[((lo + hi) / 2)]! = vx ∧ d[a]! = vy) := ⟨hvx, hvy⟩
      clear SH x0 x1 x2 y0 y1 y2 hvx hvy S1 hbl
      have mixed : Tryd.prog.follows .mixedOrders = true := by kernel_rfl
      by_cases hc : cfT vx vy < 0
      · have HC : Aside (ltT d[((lo + hi) / 2)]! d[a]!) := by rw [HV.out.1, HV.out.2]; exact cfT_lt.1 hc
        have hcb : decide (cfT vx vy < 0) = true := decide_eq_true hc
        clear hc
        go_wp2_with fail
        go_quiet_grown (first | (go_at_call 49; refine Calls.grown_of (hcg _ _)))
        have S2 : Aside (SWK fT 3 w0 blk off d (grow (wr.drewN nq) osq)) := CLS.out nq osq
        generalize grow (wr.drewN nq) osq = wq at S2 ⊢
        clear CLS hcg gx0 gx1 gx2 gy0 gy1 gy2 mixed
        go_wp2_with fail
        go_roundg (hi - ((lo + hi) / 2 + 1))
        case measure => omega
        case rel => exact ⟨(lo + hi) / 2 + 1, hi, by rw [show ((lo : Int) + (hi : Int)) / 2 + 1 = (((lo + hi) / 2 + 1 : Nat) : Int) by omega], rfl, by omega, by omega, by omega, by omega, S2, .inr (by simpa using HC.out), HH⟩
      · have HC : Aside (¬ ltT d[((lo + hi) / 2)]! d[a]!) := by rw [HV.out.1, HV.out.2]; exact fun h => hc (cfT_lt.2 h)
        have hcb : decide (cfT vx vy < 0) = false := decide_eq_false hc
        clear hc
        go_wp2_with fail
        go_quiet_grown (first | (go_at_call 49; refine Calls.grown_of (hcg _ _)))
        have S2 : Aside (SWK fT 3 w0 blk off d (grow (wr.drewN nq) osq)) := CLS.out nq osq
        generalize grow (wr.drewN nq) osq = wq at S2 ⊢
        clear CLS hcg gx0 gx1 gx2 gy0 gy1 gy2 mixed
        go_wp2_with fail
        go_roundg ((lo + hi) / 2 - lo)
        case measure => omega
        case rel => exact ⟨lo, (lo + hi) / 2, rfl, by rw [show ((lo : Int) + (hi : Int)) / 2 = (((lo + hi) / 2 : Nat) : Int) by omega], by omega, by omega, by omega, by omega, S2, HL, .inr HC.out⟩

    · obtain rfl : lo = hi := by omega
      have hltz : ¬ (lo : Int) < (lo : Int) := by omega
      clear hlt
      go_wp2_with fail
      go_loopg [13] (lo - 1 - a) (fun kx s13 wr2 => ∃ (k : Nat) (dk : Array It), s13 = .int .i64 k ∧ a ≤ k ∧ k + 1 ≤ lo ∧ lo - 1 - k ≤ kx ∧ Aside (SWK fT 3 w0 blk off dk wr2) ∧ Aside (Rot a (a + 1) (k + 1) d dk))
      case atStart => exact ⟨a, d, rfl, by omega, by omega, by omega, S1, Rot.refl2 d (by omega)⟩
      case round =>
        clear S1
        obtain ⟨k, dk, rfl, hak, hkl, hkx2, S1, HW⟩ := hrel
        have hds : dk.size = d.size := HW.out.size
        by_cases hk : k < lo - 1
        · have hkz : (k : Int) < (lo : Int) - 1 := by omega
          have W2 : Aside (Rot a (a + 1) (k + 1 + 1) d (swp dk k (k + 1))) := swp_left HW.out (by omega) (by omega)
          go_wp2_with fail
          have eA : ((k : Int)).toNat = k := by omega
          have pA : (0 : Int) ≤ (k : Int) := by omega
          have bA : (k : Int) < (d.size : Int) := by omega
          have rA : IntKind.i64.wrap ((k : Int)) = (k : Int) := by rw [IntKind.wrap_i64]; omega
          have eB : ((k : Int) + 1).toNat = (k + 1) := by omega
          have pB : (0 : Int) ≤ (k : Int) + 1 := by omega
          have bB : (k : Int) + 1 < (d.size : Int) := by omega
          have rB : IntKind.i64.wrap ((k : Int) + 1) = (k : Int) + 1 := by rw [IntKind.wrap_i64]; omega
          have S2 : Aside (SWK fT 3 w0 blk off (swp dk k (k + 1)) ((wr.drew.setCells blk (off + k * 3) (fT dk[(k + 1)]!)).setCells blk (off + (k + 1) * 3) (fT dk[k]!))) := S1.out.swapped RR.out k (k + 1) (by omega) (by omega)
          have SH := S1.out.holds RR.out.hblk RR.out.hH (by omega)
          obtain ⟨vx, hvx⟩ : ∃ v, dk[k]! = v := ⟨_, rfl⟩
          obtain ⟨vy, hvy⟩ : ∃ v, dk[(k + 1)]! = v := ⟨_, rfl⟩
          obtain ⟨x0, x1, x2, fx0, fx1, fx2⟩ := it_at SH (i := k) (by omega) hvx
          obtain ⟨y0, y1, y2, fy0, fy1, fy2⟩ := it_at SH (i := (k + 1)) (by omega) hvy
          clear SH
          rw [hvx, hvy] at S2
          simp only [fT, World.setCells, drew_setCell, add11] at S2
          clear hvx hvy
          have mixed : Tryd.prog.follows .mixedOrders = true := by kernel_rfl
          clear S1
          go_wp2_with fail
          go_big_region_o
          clear x0 x1 x2 fx0 fx1 fx2 y0 y1 y2 fy0 fy1 fy2 mixed
          generalize (((((((wr.setCell ⟨blk, off + k * 3, none⟩ (.int .i64 vy.k)).setCell ⟨blk, off + k * 3 + 1, none⟩ (.int .i64 vy.v)).setCell ⟨blk, off + k * 3 + 2, none⟩ (.int .i64 vy.d)).setCell ⟨blk, off + (k + 1) * 3, none⟩ (.int .i64 vx.k)).setCell ⟨blk, off + (k + 1) * 3 + 1, none⟩ (.int .i64 vx.v)).setCell ⟨blk, off + (k + 1) * 3 + 2, none⟩ (.int .i64 vx.d)).drew) = w2 at S2 ⊢
          go_wp2_with fail
          go_roundg (lo - 1 - (k + 1))
          case measure => omega
          case rel => exact ⟨k + 1, _, by simp, by omega, by omega, by omega, S2, W2⟩
        · have hkz : ¬ (k : Int) < (lo : Int) - 1 := by omega
          obtain rfl : lo = k + 1 := by omega
          go_wp2_with fail
          refine bodyPost_ret (results_none rfl _ _ _) rfl ?_
          obtain rfl := HM.out
          exact ⟨rfl, dk, mrg_first HR.out h1 h3 hb HL.out HH.out HW.out, S1.out⟩
set_option maxHeartbeats 6400000 in
set_option maxRecDepth 1000000 in
theorem symB (blk off cap a m b : Nat) (d0 d : Array It) (w0 w : World) (R : RowK fT 3 w0 blk off d0) (hs : d0.size = d.size) (S : SWK fT 3 w0 blk off d w) (ham : a + 1 < m) (hbm : b = m + 1) (hl : SrtI a m d) (hb : b ≤ d.size) (hsz : d.size < 4611686018427387904) :
    Mg blk off cap d0 d w0 w a m b := by
  have S0 : Aside (SWK fT 3 w0 blk off d w) := S
  have RR : Aside (RowK fT 3 w0 blk off d0) := R
  have HR : Aside (SrtI a m d) := hl
  have HM : Aside (b = m + 1) := hbm
  have hbm2 : (b : Int) - (m : Int) = 1 := by omega
  have hbm3 : m + 1 ≤ b := by omega
  have hbm4 : b ≤ m + 1 := by omega
  clear hl hbm
  clear S R
  unfold Mg
  go_enter Tryd.func81, Tryd.ntmps81
  have hma : ¬ (m : Int) - (a : Int) = 1 := by omega
  have hmab : ((m : Int) - (a : Int) == 1) = false := by simp; omega
  go_wp2_with fail
  go_loopg [14, 15] (m - a) (fun kx s10 s11 wr => ∃ lo hi : Nat, s10 = .int .i64 lo ∧ s11 = .int .i64 hi ∧ a ≤ lo ∧ lo ≤ hi ∧ hi ≤ m ∧ hi - lo ≤ kx ∧ Aside (SWK fT 3 w0 blk off d wr) ∧ Aside (lo = a ∨ ¬ ltT d[m]! d[lo - 1]!) ∧ Aside (hi = m ∨ ltT d[m]! d[hi]!))
  case atStart => exact ⟨a, m, rfl, rfl, by omega, by omega, by omega, by omega, S0, .inl rfl, .inl rfl⟩
  case round =>
    clear S0
    obtain ⟨lo, hi, rfl, rfl, h1, h2, h3, hkx, S1, HL, HH⟩ := hrel
    by_cases hlt : lo < hi
    · have hltz : (lo : Int) < (hi : Int) := by omega
      have eA : ((m : Int)).toNat = m := by omega
      have pA : (0 : Int) ≤ (m : Int) := by omega
      have bA : (m : Int) < (d.size : Int) := by omega
      have rA : IntKind.i64.wrap ((m : Int)) = (m : Int) := by rw [IntKind.wrap_i64]; omega
      have eB : (((lo : Int) + (hi : Int)) / 2).toNat = ((lo + hi) / 2) := by omega
      have pB : (0 : Int) ≤ ((lo : Int) + (hi : Int)) / 2 := by omega
      have bB : ((lo : Int) + (hi : Int)) / 2 < (d.size : Int) := by omega
      have rB : IntKind.i64.wrap (((lo : Int) + (hi : Int)) / 2) = ((lo : Int) + (hi : Int)) / 2 := by rw [IntKind.wrap_i64]; omega
      have SH := S1.out.holds RR.out.hblk RR.out.hH (by omega)
      have hbl := S1.out.lt RR.out.hblk
      obtain ⟨vx, hvx⟩ : ∃ v, d[m]! = v := ⟨_, rfl⟩
      obtain ⟨vy, hvy⟩ : ∃ v, d[((lo + hi) / 2)]! = v := ⟨_, rfl⟩
      obtain ⟨x0, x1, x2, -, -, -⟩ := it_at SH (i := m) (by omega) hvx
      obtain ⟨y0, y1, y2, -, -, -⟩ := it_at SH (i := ((lo + hi) / 2)) (by omega) hvy
      have gx0 := fun n os => cell_grown (w := wr) (by exact hbl) x0 n os
      have gx1 := fun n os => cell_grown (w := wr) (by exact hbl) x1 n os
      have gx2 := fun n os => cell_grown (w := wr) (by exact hbl) x2 n os
      have gy0 := fun n os => cell_grown (w := wr) (by exact hbl) y0 n os
      have gy1 := fun n os => cell_grown (w := wr) (by exact hbl) y1 n os
      have gy2 := fun n os => cell_grown (w := wr) (by exact hbl) y2 n os
      have hcg := fun n os => cmp_grown vx vy wr n os
      have CLS : Aside (∀ n os, SWK fT 3 w0 blk off d (grow (wr.drewN n) os)) := fun n os => S1.out.grown n os
      have HV : Aside (d[m]! = vx ∧ d[((lo + hi) / 2)]! = vy) := ⟨hvx, hvy⟩
      clear SH x0 x1 x2 y0 y1 y2 hvx hvy S1 hbl
      have mixed : Tryd.prog.follows .mixedOrders = true := by kernel_rfl
      by_cases hc : cfT vx vy < 0
      · have HC : Aside (ltT d[m]! d[((lo + hi) / 2)]!) := by rw [HV.out.1, HV.out.2]; exact cfT_lt.1 hc
        have hcb : decide (cfT vx vy < 0) = true := decide_eq_true hc
        clear hc
        go_wp2_with fail
        go_quiet_grown (first | (go_at_call 49; refine Calls.grown_of (hcg _ _)))
        have S2 : Aside (SWK fT 3 w0 blk off d (grow (wr.drewN nq) osq)) := CLS.out nq osq
        generalize grow (wr.drewN nq) osq = wq at S2 ⊢
        clear CLS hcg gx0 gx1 gx2 gy0 gy1 gy2 mixed
        go_wp2_with fail
        go_roundg ((lo + hi) / 2 - lo)
        case measure => omega
        case rel => exact ⟨lo, (lo + hi) / 2, rfl, by rw [show ((lo : Int) + (hi : Int)) / 2 = (((lo + hi) / 2 : Nat) : Int) by omega], by omega, by omega, by omega, by omega, S2, HL, .inr HC.out⟩
      · have HC : Aside (¬ ltT d[m]! d[((lo + hi) / 2)]!) := by rw [HV.out.1, HV.out.2]; exact fun h => hc (cfT_lt.2 h)
        have hcb : decide (cfT vx vy < 0) = false := decide_eq_false hc
        clear hc
        go_wp2_with fail
        go_quiet_grown (first | (go_at_call 49; refine Calls.grown_of (hcg _ _)))
        have S2 : Aside (SWK fT 3 w0 blk off d (grow (wr.drewN nq) osq)) := CLS.out nq osq
        generalize grow (wr.drewN nq) osq = wq at S2 ⊢
        clear CLS hcg gx0 gx1 gx2 gy0 gy1 gy2 mixed
        go_wp2_with fail
        go_roundg (hi - ((lo + hi) / 2 + 1))
        case measure => omega
        case rel => exact ⟨(lo + hi) / 2 + 1, hi, by rw [show ((lo : Int) + (hi : Int)) / 2 + 1 = (((lo + hi) / 2 + 1 : Nat) : Int) by omega], rfl, by omega, by omega, by omega, by omega, S2, .inr (by simpa using HC.out), HH⟩

    · obtain rfl : lo = hi := by omega
      have hltz : ¬ (lo : Int) < (lo : Int) := by omega
      clear hlt
      go_wp2_with fail
      go_loopg [17] (m - lo) (fun kx s13 wr2 => ∃ (k : Nat) (dk : Array It), s13 = .int .i64 k ∧ lo ≤ k ∧ k ≤ m ∧ k - lo ≤ kx ∧ Aside (SWK fT 3 w0 blk off dk wr2) ∧ Aside (Rot k m (m + 1) d dk))
      case atStart => exact ⟨m, d, rfl, by omega, by omega, by omega, S1, Rot.refl1 d (by omega)⟩
      case round =>
        clear S1
        obtain ⟨k, dk, rfl, hak, hkl, hkx2, S1, HW⟩ := hrel
        have hds : dk.size = d.size := HW.out.size
        by_cases hk : lo < k
        · obtain ⟨kp, rfl⟩ : ∃ kp, k = kp + 1 := ⟨k - 1, by omega⟩
          have hkz : (lo : Int) < (kp : Int) + 1 := by omega
          have W2 : Aside (Rot kp m (m + 1) d (swp dk (kp + 1) kp)) := swp_right HW.out (by omega) (by omega)
          have hkp : IntKind.i64.wrap ((kp : Int) + 1 - 1) = (kp : Int) := by rw [IntKind.wrap_i64]; omega
          go_wp2_with fail
          have eA : ((kp : Int) + 1).toNat = (kp + 1) := by omega
          have pA : (0 : Int) ≤ (kp : Int) + 1 := by omega
          have bA : (kp : Int) + 1 < (d.size : Int) := by omega
          have rA : IntKind.i64.wrap ((kp : Int) + 1) = (kp : Int) + 1 := by rw [IntKind.wrap_i64]; omega
          have eB : ((kp : Int)).toNat = kp := by omega
          have pB : (0 : Int) ≤ (kp : Int) := by omega
          have bB : (kp : Int) < (d.size : Int) := by omega
          have rB : IntKind.i64.wrap ((kp : Int)) = (kp : Int) := by rw [IntKind.wrap_i64]; omega
          have S2 : Aside (SWK fT 3 w0 blk off (swp dk (kp + 1) kp) ((wr.drew.setCells blk (off + (kp + 1) * 3) (fT dk[kp]!)).setCells blk (off + kp * 3) (fT dk[(kp + 1)]!))) := S1.out.swapped RR.out (kp + 1) kp (by omega) (by omega)
          have SH := S1.out.holds RR.out.hblk RR.out.hH (by omega)
          obtain ⟨vx, hvx⟩ : ∃ v, dk[(kp + 1)]! = v := ⟨_, rfl⟩
          obtain ⟨vy, hvy⟩ : ∃ v, dk[kp]! = v := ⟨_, rfl⟩
          obtain ⟨x0, x1, x2, fx0, fx1, fx2⟩ := it_at SH (i := (kp + 1)) (by omega) hvx
          obtain ⟨y0, y1, y2, fy0, fy1, fy2⟩ := it_at SH (i := kp) (by omega) hvy
          clear SH
          rw [hvx, hvy] at S2
          simp only [fT, World.setCells, drew_setCell, add11] at S2
          clear hvx hvy
          have mixed : Tryd.prog.follows .mixedOrders = true := by kernel_rfl
          clear S1
          go_wp2_with fail
          go_big_region_o
          clear x0 x1 x2 fx0 fx1 fx2 y0 y1 y2 fy0 fy1 fy2 mixed
          generalize (((((((wr.setCell ⟨blk, off + (kp + 1) * 3, none⟩ (.int .i64 vy.k)).setCell ⟨blk, off + (kp + 1) * 3 + 1, none⟩ (.int .i64 vy.v)).setCell ⟨blk, off + (kp + 1) * 3 + 2, none⟩ (.int .i64 vy.d)).setCell ⟨blk, off + kp * 3, none⟩ (.int .i64 vx.k)).setCell ⟨blk, off + kp * 3 + 1, none⟩ (.int .i64 vx.v)).setCell ⟨blk, off + kp * 3 + 2, none⟩ (.int .i64 vx.d)).drew) = w2 at S2 ⊢
          go_wp2_with fail
          go_roundg (kp - lo)
          case measure => omega
          case rel => exact ⟨kp, _, by first | rfl | go_num, by omega, by omega, by omega, S2, W2⟩
        · obtain rfl : lo = k := by omega
          have hkz : ¬ (lo : Int) < (lo : Int) := by omega
          go_wp2_with fail
          refine bodyPost_ret (results_none rfl _ _ _) rfl ?_
          obtain rfl := HM.out
          exact ⟨rfl, dk, mrg_last HR.out h1 hkl hb HL.out HH.out HW.out, S1.out⟩
set_option maxHeartbeats 6400000 in
set_option maxRecDepth 1000000 in
theorem symC (blk off cap a m b : Nat) (d0 d : Array It) (w0 w : World) (R : RowK fT 3 w0 blk off d0) (hs : d0.size = d.size) (S : SWK fT 3 w0 blk off d w) (ham : a + 1 < m) (hmb : m + 1 < b) (hl : SrtI a m d) (hr : SrtI m b d) (IH : ∀ (a' m' b' : Nat) (d' : Array It) (w' : World), b' - a' < b - a → a' < m' → m' < b' → b' ≤ d'.size → d0.size = d'.size → SrtI a' m' d' → SrtI m' b' d' → SWK fT 3 w0 blk off d' w' → Mg blk off cap d0 d' w0 w' a' m' b') (mid : Nat) (hmid : mid = (a + b) / 2) (hm : mid < m) (hb : b ≤ d.size) (hsz : d.size < 4611686018427387904) :
    Mg blk off cap d0 d w0 w a m b := by
  have S0 : Aside (SWK fT 3 w0 blk off d w) := S
  have RR : Aside (RowK fT 3 w0 blk off d0) := R
  have HL0 : Aside (SrtI a m d) := hl
  have HR0 : Aside (SrtI m b d) := hr
  clear hl hr
  clear S R
  unfold Mg
  go_enter Tryd.func81, Tryd.ntmps81
  have hma : ¬ (m : Int) - (a : Int) = 1 := by omega
  have hmab : ((m : Int) - (a : Int) == 1) = false := by simp; omega
  have hbm2 : ¬ (b : Int) - (m : Int) = 1 := by omega
  have hbmb : ((b : Int) - (m : Int) == 1) = false := by simp; omega
  have hmidz : ((a : Int) + (b : Int)) / 2 = (mid : Int) := by omega
  have hmz : (mid : Int) < (m : Int) := by omega
  have hab1 : a < mid := by omega
  have hab2 : mid < b := by omega
  have hab3 : 2 * mid ≤ a + b := by omega
  have hab4 : a + b ≤ 2 * mid + 1 := by omega
  clear hmid
  go_wp2_with fail
  go_loopg [20, 21] (b - a) (fun kx s20 s21 wr => ∃ lo hi : Nat, s20 = .int .i64 lo ∧ s21 = .int .i64 hi ∧ (mid + m - b) ≤ lo ∧ lo ≤ hi ∧ hi ≤ mid ∧ hi - lo ≤ kx ∧ Aside (SWK fT 3 w0 blk off d wr) ∧ Aside (lo = (mid + m - b) ∨ ¬ ltT d[mid + m - lo]! d[lo - 1]!) ∧ Aside (hi = mid ∨ ltT d[mid + m - 1 - hi]! d[hi]!))
  case atStart => exact ⟨(mid + m - b), mid, by first | rfl | go_num, by first | rfl | go_num, by omega, by omega, by omega, by omega, S0, .inl rfl, .inl rfl⟩
  case round =>
    clear S0
    obtain ⟨lo, hi, rfl, rfl, h1, h2, h3, hkx, S1, HL, HH⟩ := hrel
    by_cases hlt : lo < hi
    · have hltz : (lo : Int) < (hi : Int) := by omega
      obtain ⟨c, hc1, hc2⟩ : ∃ c, 2 * c ≤ lo + hi ∧ lo + hi ≤ 2 * c + 1 := ⟨(lo + hi) / 2, by omega, by omega⟩
      have hcz : ((lo : Int) + (hi : Int)) / 2 = (c : Int) := by omega
      obtain ⟨q, hq1, hq2⟩ : ∃ q, q + c + 1 ≤ mid + m ∧ mid + m ≤ q + c + 1 := ⟨mid + m - 1 - c, by omega, by omega⟩
      have hqz : (mid : Int) + (m : Int) - 1 - (c : Int) = (q : Int) := by omega
      have eA : ((q : Int)).toNat = q := by omega
      have pA : (0 : Int) ≤ (q : Int) := by omega
      have bA : (q : Int) < (d.size : Int) := by omega
      have rA : IntKind.i64.wrap ((q : Int)) = (q : Int) := by rw [IntKind.wrap_i64]; omega
      have eB : ((c : Int)).toNat = c := by omega
      have pB : (0 : Int) ≤ (c : Int) := by omega
      have bB : (c : Int) < (d.size : Int) := by omega
      have rB : IntKind.i64.wrap ((c : Int)) = (c : Int) := by rw [IntKind.wrap_i64]; omega
      have SH := S1.out.holds RR.out.hblk RR.out.hH (by omega)
      have hbl := S1.out.lt RR.out.hblk
      obtain ⟨vx, hvx⟩ : ∃ v, d[q]! = v := ⟨_, rfl⟩
      obtain ⟨vy, hvy⟩ : ∃ v, d[c]! = v := ⟨_, rfl⟩
      obtain ⟨x0, x1, x2, -, -, -⟩ := it_at SH (i := q) (by omega) hvx
      obtain ⟨y0, y1, y2, -, -, -⟩ := it_at SH (i := c) (by omega) hvy
      have gx0 := fun n os => cell_grown (w := wr) (by exact hbl) x0 n os
      have gx1 := fun n os => cell_grown (w := wr) (by exact hbl) x1 n os
      have gx2 := fun n os => cell_grown (w := wr) (by exact hbl) x2 n os
      have gy0 := fun n os => cell_grown (w := wr) (by exact hbl) y0 n os
      have gy1 := fun n os => cell_grown (w := wr) (by exact hbl) y1 n os
      have gy2 := fun n os => cell_grown (w := wr) (by exact hbl) y2 n os
      have hcg := fun n os => cmp_grown vx vy wr n os
      have CLS : Aside (∀ n os, SWK fT 3 w0 blk off d (grow (wr.drewN n) os)) := fun n os => S1.out.grown n os
      have HV : Aside (d[q]! = vx ∧ d[c]! = vy) := ⟨hvx, hvy⟩
      clear SH x0 x1 x2 y0 y1 y2 hvx hvy S1 hbl
      have mixed : Tryd.prog.follows .mixedOrders = true := by kernel_rfl
      by_cases hc : cfT vx vy < 0
      · have HC : Aside (ltT d[q]! d[c]!) := by rw [HV.out.1, HV.out.2]; exact cfT_lt.1 hc
        have hcb : decide (cfT vx vy < 0) = true := decide_eq_true hc
        clear hc
        go_wp2_with fail
        go_quiet_grown (first | (go_at_call 49; refine Calls.grown_of (hcg _ _)))
        have S2 : Aside (SWK fT 3 w0 blk off d (grow (wr.drewN nq) osq)) := CLS.out nq osq
        generalize grow (wr.drewN nq) osq = wq at S2 ⊢
        clear CLS hcg gx0 gx1 gx2 gy0 gy1 gy2 mixed
        go_wp2_with fail
        go_roundg (c - lo)
        case measure => omega
        case rel => exact ⟨lo, c, rfl, by first | rfl | go_num, by omega, by omega, by omega, by omega, S2, HL, .inr (by rw [show mid + m - 1 - c = q by omega]; exact HC.out)⟩
      · have HC : Aside (¬ ltT d[q]! d[c]!) := by rw [HV.out.1, HV.out.2]; exact fun h => hc (cfT_lt.2 h)
        have hcb : decide (cfT vx vy < 0) = false := decide_eq_false hc
        clear hc
        go_wp2_with fail
        go_quiet_grown (first | (go_at_call 49; refine Calls.grown_of (hcg _ _)))
        have S2 : Aside (SWK fT 3 w0 blk off d (grow (wr.drewN nq) osq)) := CLS.out nq osq
        generalize grow (wr.drewN nq) osq = wq at S2 ⊢
        clear CLS hcg gx0 gx1 gx2 gy0 gy1 gy2 mixed
        go_wp2_with fail
        go_roundg (hi - (c + 1))
        case measure => omega
        case rel => exact ⟨c + 1, hi, by first | rfl | go_num, rfl, by omega, by omega, by omega, by omega, S2, .inr (by rw [show mid + m - (c + 1) = q by omega]; simpa using HC.out), HH⟩
    · obtain rfl : lo = hi := by omega
      have hltz : ¬ (lo : Int) < (lo : Int) := by omega
      clear hlt
      have CU : Aside (Cut a m b mid lo d) := ⟨by omega, by omega, by omega, by omega, HL.out.elim (fun e => by omega) (fun h => .inr (.inr h)), HH.out.elim (fun e => by omega) (fun h => .inr (.inr h))⟩
      have hend : IntKind.i64.wrap ((mid : Int) + (m : Int) - (lo : Int)) = ((mid + m - lo : Nat) : Int) := by rw [IntKind.wrap_i64]; omega
      have hc1 := CU.out.lo
      have hc2 := CU.out.le
      have hc3 := CU.out.lm
      have hc4 := CU.out.hi
      clear HL HH h1 h2 h3
      by_cases h3 : lo < m ∧ lo < mid
      · skip
        by_cases h4 : a < lo
        · by_cases h5 : mid + m - lo < b
          · skip
            have hf0 : (lo : Int) < (m : Int) := by omega
            have hf1 : (m : Int) < ((mid + m - lo : Nat) : Int) := by omega
            have hf2 : (a : Int) < (lo : Int) := by omega
            have hf3 : (lo : Int) < (mid : Int) := by omega
            have hf4 : (mid : Int) < ((mid + m - lo : Nat) : Int) := by omega
            have hf5 : ((mid + m - lo : Nat) : Int) < (b : Int) := by omega
            have H := rotate_any 49 #[] blk off cap lo m (mid + m - lo) d0 d w0 wr RR.out hs S1.out (by omega) (by omega) (by omega) hsz
            go_wp2_with fail
            refine H.mono ?_
            rintro e w2 ⟨rfl, d1, RT', S2'⟩
            clear H S1
            have RT : Aside (Rot lo m (mid + m - lo) d d1) := RT'
            have S2 : Aside (SWK fT 3 w0 blk off d1 w2) := S2'
            clear RT' S2'
            have PT : Aside (SrtI a lo d1 ∧ SrtI lo mid d1 ∧ SrtI mid (mid + m - lo) d1 ∧ SrtI (mid + m - lo) b d1 ∧ ∀ i j, a ≤ i → i < mid → mid ≤ j → j < b → leT d1[i]! d1[j]!) := CU.out.parts (by omega) (by omega) (by omega) HL0.out HR0.out RT.out
            have hs1 : d1.size = d.size := RT.out.size
            have H := IH a lo mid d1 w2 (by omega) (by omega) (by omega) (by omega) (by omega) PT.out.1 PT.out.2.1 S2.out
            unfold Mg at H
            rw [hs1] at H
            go_wp2_with fail
            refine H.mono ?_
            rintro e w3 ⟨rfl, d2, M2', S3'⟩
            clear H
            have M2 : Aside (SrtI a mid d2 ∧ Mrg a mid d1 d2) := M2'
            have S3 : Aside (SWK fT 3 w0 blk off d2 w3) := S3'
            clear M2' S3' S2
            have P3 : Aside (SrtI mid (mid + m - lo) d2 ∧ SrtI (mid + m - lo) b d2) := ⟨fun i j i1 i2 i3 => by rw [M2.out.2.out _ (.inr i1), M2.out.2.out _ (.inr (by omega))]; exact PT.out.2.2.1 i j i1 i2 i3, fun i j i1 i2 i3 => by rw [M2.out.2.out _ (.inr (by omega)), M2.out.2.out _ (.inr (by omega))]; exact PT.out.2.2.2.1 i j i1 i2 i3⟩
            have hs2 : d2.size = d.size := M2.out.2.size.trans RT.out.size
            have H := IH mid (mid + m - lo) b d2 w3 (by omega) (by omega) (by omega) (by omega) (by omega) P3.out.1 P3.out.2 S3.out
            unfold Mg at H
            rw [hs2] at H
            go_wp2_with fail
            refine H.mono ?_
            rintro e w' ⟨rfl, d3, M3, S4⟩
            clear H
            have X := mrg_both (by omega) (by omega) PT.out.2.2.2.2 M2.out.1 M2.out.2 M3.1 M3.2
            have XX : Aside (SrtI a b d3 ∧ Mrg a b d d3) := ⟨X.1, (CU.out.mrg (by omega) (by omega) hb HL0.out HR0.out RT.out).trans X.2⟩
            have S5 : Aside (SWK fT 3 w0 blk off d3 w') := S4
            clear X M3 S4 P3 PT RT M2 CU S3
            go_wp2_with fail
            go_end0
            exact ⟨rfl, d3, XX.out, S5.out⟩
          · skip
            have hf0 : (lo : Int) < (m : Int) := by omega
            have hf1 : (m : Int) < ((mid + m - lo : Nat) : Int) := by omega
            have hf2 : (a : Int) < (lo : Int) := by omega
            have hf3 : (lo : Int) < (mid : Int) := by omega
            have hf4 : (mid : Int) < ((mid + m - lo : Nat) : Int) := by omega
            have hf5 : ¬ ((mid + m - lo : Nat) : Int) < (b : Int) := by omega
            have H := rotate_any 49 #[] blk off cap lo m (mid + m - lo) d0 d w0 wr RR.out hs S1.out (by omega) (by omega) (by omega) hsz
            go_wp2_with fail
            refine H.mono ?_
            rintro e w2 ⟨rfl, d1, RT', S2'⟩
            clear H S1
            have RT : Aside (Rot lo m (mid + m - lo) d d1) := RT'
            have S2 : Aside (SWK fT 3 w0 blk off d1 w2) := S2'
            clear RT' S2'
            have PT : Aside (SrtI a lo d1 ∧ SrtI lo mid d1 ∧ SrtI mid (mid + m - lo) d1 ∧ SrtI (mid + m - lo) b d1 ∧ ∀ i j, a ≤ i → i < mid → mid ≤ j → j < b → leT d1[i]! d1[j]!) := CU.out.parts (by omega) (by omega) (by omega) HL0.out HR0.out RT.out
            have hs1 : d1.size = d.size := RT.out.size
            have H := IH a lo mid d1 w2 (by omega) (by omega) (by omega) (by omega) (by omega) PT.out.1 PT.out.2.1 S2.out
            unfold Mg at H
            rw [hs1] at H
            go_wp2_with fail
            refine H.mono ?_
            rintro e w3 ⟨rfl, d2, M2', S3'⟩
            clear H
            have M2 : Aside (SrtI a mid d2 ∧ Mrg a mid d1 d2) := M2'
            have S3 : Aside (SWK fT 3 w0 blk off d2 w3) := S3'
            clear M2' S3' S2
            have P3 : Aside (SrtI mid (mid + m - lo) d2 ∧ SrtI (mid + m - lo) b d2) := ⟨fun i j i1 i2 i3 => by rw [M2.out.2.out _ (.inr i1), M2.out.2.out _ (.inr (by omega))]; exact PT.out.2.2.1 i j i1 i2 i3, fun i j i1 i2 i3 => by rw [M2.out.2.out _ (.inr (by omega)), M2.out.2.out _ (.inr (by omega))]; exact PT.out.2.2.2.1 i j i1 i2 i3⟩
            have hs2 : d2.size = d.size := M2.out.2.size.trans RT.out.size
            have M3 : SrtI mid b d2 := by
              have e2 : mid + m - lo = b := by omega
              have := P3.out.1; rwa [e2] at this
            have X := mrg_both (by omega) (by omega) PT.out.2.2.2.2 M2.out.1 M2.out.2 M3 (Mrg.refl mid b d2)
            have XX : Aside (SrtI a b d2 ∧ Mrg a b d d2) := ⟨X.1, (CU.out.mrg (by omega) (by omega) hb HL0.out HR0.out RT.out).trans X.2⟩
            clear X M3 P3 PT RT M2 CU
            go_wp2_with fail
            go_end0
            exact ⟨rfl, d2, XX.out, S3.out⟩
        · by_cases h5 : mid + m - lo < b
          · skip
            have hf0 : (lo : Int) < (m : Int) := by omega
            have hf1 : (m : Int) < ((mid + m - lo : Nat) : Int) := by omega
            have hf2 : ¬ (a : Int) < (lo : Int) := by omega
            have hf3 : (mid : Int) < ((mid + m - lo : Nat) : Int) := by omega
            have hf4 : ((mid + m - lo : Nat) : Int) < (b : Int) := by omega
            have H := rotate_any 49 #[] blk off cap lo m (mid + m - lo) d0 d w0 wr RR.out hs S1.out (by omega) (by omega) (by omega) hsz
            go_wp2_with fail
            refine H.mono ?_
            rintro e w2 ⟨rfl, d1, RT', S2'⟩
            clear H S1
            have RT : Aside (Rot lo m (mid + m - lo) d d1) := RT'
            have S2 : Aside (SWK fT 3 w0 blk off d1 w2) := S2'
            clear RT' S2'
            have PT : Aside (SrtI a lo d1 ∧ SrtI lo mid d1 ∧ SrtI mid (mid + m - lo) d1 ∧ SrtI (mid + m - lo) b d1 ∧ ∀ i j, a ≤ i → i < mid → mid ≤ j → j < b → leT d1[i]! d1[j]!) := CU.out.parts (by omega) (by omega) (by omega) HL0.out HR0.out RT.out
            have hs1 : d1.size = d.size := RT.out.size
            have M2 : Aside (SrtI a mid d1 ∧ Mrg a mid d1 d1) := by
              refine ⟨?_, Mrg.refl a mid d1⟩
              have e2 : lo = a := by omega
              have := PT.out.2.1; rwa [e2] at this
            obtain ⟨d2, hd2⟩ : ∃ d2, d2 = d1 := ⟨_, rfl⟩
            obtain ⟨w3, hw3⟩ : ∃ w3, w3 = w2 := ⟨_, rfl⟩
            have M2 : Aside (SrtI a mid d2 ∧ Mrg a mid d1 d2) := by rw [hd2]; exact M2
            have S3 : Aside (SWK fT 3 w0 blk off d2 w3) := by rw [hd2, hw3]; exact S2
            rw [← hw3]
            clear hd2 hw3 S2
            have P3 : Aside (SrtI mid (mid + m - lo) d2 ∧ SrtI (mid + m - lo) b d2) := ⟨fun i j i1 i2 i3 => by rw [M2.out.2.out _ (.inr i1), M2.out.2.out _ (.inr (by omega))]; exact PT.out.2.2.1 i j i1 i2 i3, fun i j i1 i2 i3 => by rw [M2.out.2.out _ (.inr (by omega)), M2.out.2.out _ (.inr (by omega))]; exact PT.out.2.2.2.1 i j i1 i2 i3⟩
            have hs2 : d2.size = d.size := M2.out.2.size.trans RT.out.size
            have H := IH mid (mid + m - lo) b d2 w3 (by omega) (by omega) (by omega) (by omega) (by omega) P3.out.1 P3.out.2 S3.out
            unfold Mg at H
            rw [hs2] at H
            go_wp2_with fail
            refine H.mono ?_
            rintro e w' ⟨rfl, d3, M3, S4⟩
            clear H
            have X := mrg_both (by omega) (by omega) PT.out.2.2.2.2 M2.out.1 M2.out.2 M3.1 M3.2
            have XX : Aside (SrtI a b d3 ∧ Mrg a b d d3) := ⟨X.1, (CU.out.mrg (by omega) (by omega) hb HL0.out HR0.out RT.out).trans X.2⟩
            have S5 : Aside (SWK fT 3 w0 blk off d3 w') := S4
            clear X M3 S4 P3 PT RT M2 CU S3
            go_wp2_with fail
            go_end0
            exact ⟨rfl, d3, XX.out, S5.out⟩
          · skip
            have hf0 : (lo : Int) < (m : Int) := by omega
            have hf1 : (m : Int) < ((mid + m - lo : Nat) : Int) := by omega
            have hf2 : ¬ (a : Int) < (lo : Int) := by omega
            have hf3 : (mid : Int) < ((mid + m - lo : Nat) : Int) := by omega
            have hf4 : ¬ ((mid + m - lo : Nat) : Int) < (b : Int) := by omega
            have H := rotate_any 49 #[] blk off cap lo m (mid + m - lo) d0 d w0 wr RR.out hs S1.out (by omega) (by omega) (by omega) hsz
            go_wp2_with fail
            refine H.mono ?_
            rintro e w2 ⟨rfl, d1, RT', S2'⟩
            clear H S1
            have RT : Aside (Rot lo m (mid + m - lo) d d1) := RT'
            have S2 : Aside (SWK fT 3 w0 blk off d1 w2) := S2'
            clear RT' S2'
            have PT : Aside (SrtI a lo d1 ∧ SrtI lo mid d1 ∧ SrtI mid (mid + m - lo) d1 ∧ SrtI (mid + m - lo) b d1 ∧ ∀ i j, a ≤ i → i < mid → mid ≤ j → j < b → leT d1[i]! d1[j]!) := CU.out.parts (by omega) (by omega) (by omega) HL0.out HR0.out RT.out
            have hs1 : d1.size = d.size := RT.out.size
            have M2 : Aside (SrtI a mid d1 ∧ Mrg a mid d1 d1) := by
              refine ⟨?_, Mrg.refl a mid d1⟩
              have e2 : lo = a := by omega
              have := PT.out.2.1; rwa [e2] at this
            obtain ⟨d2, hd2⟩ : ∃ d2, d2 = d1 := ⟨_, rfl⟩
            obtain ⟨w3, hw3⟩ : ∃ w3, w3 = w2 := ⟨_, rfl⟩
            have M2 : Aside (SrtI a mid d2 ∧ Mrg a mid d1 d2) := by rw [hd2]; exact M2
            have S3 : Aside (SWK fT 3 w0 blk off d2 w3) := by rw [hd2, hw3]; exact S2
            rw [← hw3]
            clear hd2 hw3 S2
            have P3 : Aside (SrtI mid (mid + m - lo) d2 ∧ SrtI (mid + m - lo) b d2) := ⟨fun i j i1 i2 i3 => by rw [M2.out.2.out _ (.inr i1), M2.out.2.out _ (.inr (by omega))]; exact PT.out.2.2.1 i j i1 i2 i3, fun i j i1 i2 i3 => by rw [M2.out.2.out _ (.inr (by omega)), M2.out.2.out _ (.inr (by omega))]; exact PT.out.2.2.2.1 i j i1 i2 i3⟩
            have hs2 : d2.size = d.size := M2.out.2.size.trans RT.out.size
            have M3 : SrtI mid b d2 := by
              have e2 : mid + m - lo = b := by omega
              have := P3.out.1; rwa [e2] at this
            have X := mrg_both (by omega) (by omega) PT.out.2.2.2.2 M2.out.1 M2.out.2 M3 (Mrg.refl mid b d2)
            have XX : Aside (SrtI a b d2 ∧ Mrg a b d d2) := ⟨X.1, (CU.out.mrg (by omega) (by omega) hb HL0.out HR0.out RT.out).trans X.2⟩
            clear X M3 P3 PT RT M2 CU
            go_wp2_with fail
            go_end0
            exact ⟨rfl, d2, XX.out, S3.out⟩
      · skip
        have hf0 : (lo : Int) < (m : Int) := by omega
        have hf1 : ¬ (m : Int) < ((mid + m - lo : Nat) : Int) := by omega
        have hf2 : (a : Int) < (lo : Int) := by omega
        have hf3 : ¬ (lo : Int) < (mid : Int) := by omega
        have hf4 : (mid : Int) < ((mid + m - lo : Nat) : Int) := by omega
        have hf5 : ((mid + m - lo : Nat) : Int) < (b : Int) := by omega
        have RT : Aside (Rot lo m (mid + m - lo) d d) := by
          show Rot _ _ _ _ _
          have e2 : lo = mid := by omega
          rw [e2, show mid + m - mid = m by omega]; exact Rot.refl2 d (by omega)
        obtain ⟨d1, hd1⟩ : ∃ d1, d1 = d := ⟨_, rfl⟩
        obtain ⟨w2, hw2⟩ : ∃ w2, w2 = wr := ⟨_, rfl⟩
        have S2 : Aside (SWK fT 3 w0 blk off d1 w2) := by rw [hd1, hw2]; exact S1
        have RT : Aside (Rot lo m (mid + m - lo) d d1) := by rw [hd1]; exact RT
        rw [← hw2]
        clear hd1 hw2 S1
        have PT : Aside (SrtI a lo d1 ∧ SrtI lo mid d1 ∧ SrtI mid (mid + m - lo) d1 ∧ SrtI (mid + m - lo) b d1 ∧ ∀ i j, a ≤ i → i < mid → mid ≤ j → j < b → leT d1[i]! d1[j]!) := CU.out.parts (by omega) (by omega) (by omega) HL0.out HR0.out RT.out
        have hs1 : d1.size = d.size := RT.out.size
        have M2 : Aside (SrtI a mid d1 ∧ Mrg a mid d1 d1) := by
          refine ⟨?_, Mrg.refl a mid d1⟩
          have e2 : lo = mid := by omega
          have := PT.out.1; rwa [e2] at this
        obtain ⟨d2, hd2⟩ : ∃ d2, d2 = d1 := ⟨_, rfl⟩
        obtain ⟨w3, hw3⟩ : ∃ w3, w3 = w2 := ⟨_, rfl⟩
        have M2 : Aside (SrtI a mid d2 ∧ Mrg a mid d1 d2) := by rw [hd2]; exact M2
        have S3 : Aside (SWK fT 3 w0 blk off d2 w3) := by rw [hd2, hw3]; exact S2
        rw [← hw3]
        clear hd2 hw3 S2
        have P3 : Aside (SrtI mid (mid + m - lo) d2 ∧ SrtI (mid + m - lo) b d2) := ⟨fun i j i1 i2 i3 => by rw [M2.out.2.out _ (.inr i1), M2.out.2.out _ (.inr (by omega))]; exact PT.out.2.2.1 i j i1 i2 i3, fun i j i1 i2 i3 => by rw [M2.out.2.out _ (.inr (by omega)), M2.out.2.out _ (.inr (by omega))]; exact PT.out.2.2.2.1 i j i1 i2 i3⟩
        have hs2 : d2.size = d.size := M2.out.2.size.trans RT.out.size
        have H := IH mid (mid + m - lo) b d2 w3 (by omega) (by omega) (by omega) (by omega) (by omega) P3.out.1 P3.out.2 S3.out
        unfold Mg at H
        rw [hs2] at H
        go_wp2_with fail
        refine H.mono ?_
        rintro e w' ⟨rfl, d3, M3, S4⟩
        clear H
        have X := mrg_both (by omega) (by omega) PT.out.2.2.2.2 M2.out.1 M2.out.2 M3.1 M3.2
        have XX : Aside (SrtI a b d3 ∧ Mrg a b d d3) := ⟨X.1, (CU.out.mrg (by omega) (by omega) hb HL0.out HR0.out RT.out).trans X.2⟩
        have S5 : Aside (SWK fT 3 w0 blk off d3 w') := S4
        clear X M3 S4 P3 PT RT M2 CU S3
        go_wp2_with fail
        go_end0
        exact ⟨rfl, d3, XX.out, S5.out⟩
set_option maxHeartbeats 6400000 in
set_option maxRecDepth 1000000 in
theorem symD (blk off cap a m b : Nat) (d0 d : Array It) (w0 w : World) (R : RowK fT 3 w0 blk off d0) (hs : d0.size = d.size) (S : SWK fT 3 w0 blk off d w) (ham : a + 1 < m) (hmb : m + 1 < b) (hl : SrtI a m d) (hr : SrtI m b d) (IH : ∀ (a' m' b' : Nat) (d' : Array It) (w' : World), b' - a' < b - a → a' < m' → m' < b' → b' ≤ d'.size → d0.size = d'.size → SrtI a' m' d' → SrtI m' b' d' → SWK fT 3 w0 blk off d' w' → Mg blk off cap d0 d' w0 w' a' m' b') (mid : Nat) (hmid : mid = (a + b) / 2) (hm : ¬ mid < m) (hb : b ≤ d.size) (hsz : d.size < 4611686018427387904) :
    Mg blk off cap d0 d w0 w a m b := by
  have S0 : Aside (SWK fT 3 w0 blk off d w) := S
  have RR : Aside (RowK fT 3 w0 blk off d0) := R
  have HL0 : Aside (SrtI a m d) := hl
  have HR0 : Aside (SrtI m b d) := hr
  clear hl hr
  clear S R
  unfold Mg
  go_enter Tryd.func81, Tryd.ntmps81
  have hma : ¬ (m : Int) - (a : Int) = 1 := by omega
  have hmab : ((m : Int) - (a : Int) == 1) = false := by simp; omega
  have hbm2 : ¬ (b : Int) - (m : Int) = 1 := by omega
  have hbmb : ((b : Int) - (m : Int) == 1) = false := by simp; omega
  have hmidz : ((a : Int) + (b : Int)) / 2 = (mid : Int) := by omega
  have hmz : ¬ (mid : Int) < (m : Int) := by omega
  have hab1 : a < mid := by omega
  have hab2 : mid < b := by omega
  have hab3 : 2 * mid ≤ a + b := by omega
  have hab4 : a + b ≤ 2 * mid + 1 := by omega
  clear hmid
  go_wp2_with fail
  go_loopg [20, 21] (b - a) (fun kx s20 s21 wr => ∃ lo hi : Nat, s20 = .int .i64 lo ∧ s21 = .int .i64 hi ∧ a ≤ lo ∧ lo ≤ hi ∧ hi ≤ m ∧ hi - lo ≤ kx ∧ Aside (SWK fT 3 w0 blk off d wr) ∧ Aside (lo = a ∨ ¬ ltT d[mid + m - lo]! d[lo - 1]!) ∧ Aside (hi = m ∨ ltT d[mid + m - 1 - hi]! d[hi]!))
  case atStart => exact ⟨a, m, by first | rfl | go_num, by first | rfl | go_num, by omega, by omega, by omega, by omega, S0, .inl rfl, .inl rfl⟩
  case round =>
    clear S0
    obtain ⟨lo, hi, rfl, rfl, h1, h2, h3, hkx, S1, HL, HH⟩ := hrel
    by_cases hlt : lo < hi
    · have hltz : (lo : Int) < (hi : Int) := by omega
      obtain ⟨c, hc1, hc2⟩ : ∃ c, 2 * c ≤ lo + hi ∧ lo + hi ≤ 2 * c + 1 := ⟨(lo + hi) / 2, by omega, by omega⟩
      have hcz : ((lo : Int) + (hi : Int)) / 2 = (c : Int) := by omega
      obtain ⟨q, hq1, hq2⟩ : ∃ q, q + c + 1 ≤ mid + m ∧ mid + m ≤ q + c + 1 := ⟨mid + m - 1 - c, by omega, by omega⟩
      have hqz : (mid : Int) + (m : Int) - 1 - (c : Int) = (q : Int) := by omega
      have eA : ((q : Int)).toNat = q := by omega
      have pA : (0 : Int) ≤ (q : Int) := by omega
      have bA : (q : Int) < (d.size : Int) := by omega
      have rA : IntKind.i64.wrap ((q : Int)) = (q : Int) := by rw [IntKind.wrap_i64]; omega
      have eB : ((c : Int)).toNat = c := by omega
      have pB : (0 : Int) ≤ (c : Int) := by omega
      have bB : (c : Int) < (d.size : Int) := by omega
      have rB : IntKind.i64.wrap ((c : Int)) = (c : Int) := by rw [IntKind.wrap_i64]; omega
      have SH := S1.out.holds RR.out.hblk RR.out.hH (by omega)
      have hbl := S1.out.lt RR.out.hblk
      obtain ⟨vx, hvx⟩ : ∃ v, d[q]! = v := ⟨_, rfl⟩
      obtain ⟨vy, hvy⟩ : ∃ v, d[c]! = v := ⟨_, rfl⟩
      obtain ⟨x0, x1, x2, -, -, -⟩ := it_at SH (i := q) (by omega) hvx
      obtain ⟨y0, y1, y2, -, -, -⟩ := it_at SH (i := c) (by omega) hvy
      have gx0 := fun n os => cell_grown (w := wr) (by exact hbl) x0 n os
      have gx1 := fun n os => cell_grown (w := wr) (by exact hbl) x1 n os
      have gx2 := fun n os => cell_grown (w := wr) (by exact hbl) x2 n os
      have gy0 := fun n os => cell_grown (w := wr) (by exact hbl) y0 n os
      have gy1 := fun n os => cell_grown (w := wr) (by exact hbl) y1 n os
      have gy2 := fun n os => cell_grown (w := wr) (by exact hbl) y2 n os
      have hcg := fun n os => cmp_grown vx vy wr n os
      have CLS : Aside (∀ n os, SWK fT 3 w0 blk off d (grow (wr.drewN n) os)) := fun n os => S1.out.grown n os
      have HV : Aside (d[q]! = vx ∧ d[c]! = vy) := ⟨hvx, hvy⟩
      clear SH x0 x1 x2 y0 y1 y2 hvx hvy S1 hbl
      have mixed : Tryd.prog.follows .mixedOrders = true := by kernel_rfl
      by_cases hc : cfT vx vy < 0
      · have HC : Aside (ltT d[q]! d[c]!) := by rw [HV.out.1, HV.out.2]; exact cfT_lt.1 hc
        have hcb : decide (cfT vx vy < 0) = true := decide_eq_true hc
        clear hc
        go_wp2_with fail
        go_quiet_grown (first | (go_at_call 49; refine Calls.grown_of (hcg _ _)))
        have S2 : Aside (SWK fT 3 w0 blk off d (grow (wr.drewN nq) osq)) := CLS.out nq osq
        generalize grow (wr.drewN nq) osq = wq at S2 ⊢
        clear CLS hcg gx0 gx1 gx2 gy0 gy1 gy2 mixed
        go_wp2_with fail
        go_roundg (c - lo)
        case measure => omega
        case rel => exact ⟨lo, c, rfl, by first | rfl | go_num, by omega, by omega, by omega, by omega, S2, HL, .inr (by rw [show mid + m - 1 - c = q by omega]; exact HC.out)⟩
      · have HC : Aside (¬ ltT d[q]! d[c]!) := by rw [HV.out.1, HV.out.2]; exact fun h => hc (cfT_lt.2 h)
        have hcb : decide (cfT vx vy < 0) = false := decide_eq_false hc
        clear hc
        go_wp2_with fail
        go_quiet_grown (first | (go_at_call 49; refine Calls.grown_of (hcg _ _)))
        have S2 : Aside (SWK fT 3 w0 blk off d (grow (wr.drewN nq) osq)) := CLS.out nq osq
        generalize grow (wr.drewN nq) osq = wq at S2 ⊢
        clear CLS hcg gx0 gx1 gx2 gy0 gy1 gy2 mixed
        go_wp2_with fail
        go_roundg (hi - (c + 1))
        case measure => omega
        case rel => exact ⟨c + 1, hi, by first | rfl | go_num, rfl, by omega, by omega, by omega, by omega, S2, .inr (by rw [show mid + m - (c + 1) = q by omega]; simpa using HC.out), HH⟩
    · obtain rfl : lo = hi := by omega
      have hltz : ¬ (lo : Int) < (lo : Int) := by omega
      clear hlt
      have CU : Aside (Cut a m b mid lo d) := ⟨by omega, by omega, by omega, by omega, HL.out.elim (fun e => by omega) (fun h => .inr (.inr h)), HH.out.elim (fun e => by omega) (fun h => .inr (.inr h))⟩
      have hend : IntKind.i64.wrap ((mid : Int) + (m : Int) - (lo : Int)) = ((mid + m - lo : Nat) : Int) := by rw [IntKind.wrap_i64]; omega
      have hc1 := CU.out.lo
      have hc2 := CU.out.le
      have hc3 := CU.out.lm
      have hc4 := CU.out.hi
      clear HL HH h1 h2 h3
      by_cases h3 : lo < m ∧ lo < mid
      · skip
        by_cases h4 : a < lo
        · by_cases h5 : mid + m - lo < b
          · skip
            have hf0 : (lo : Int) < (m : Int) := by omega
            have hf1 : (m : Int) < ((mid + m - lo : Nat) : Int) := by omega
            have hf2 : (a : Int) < (lo : Int) := by omega
            have hf3 : (lo : Int) < (mid : Int) := by omega
            have hf4 : (mid : Int) < ((mid + m - lo : Nat) : Int) := by omega
            have hf5 : ((mid + m - lo : Nat) : Int) < (b : Int) := by omega
            have H := rotate_any 49 #[] blk off cap lo m (mid + m - lo) d0 d w0 wr RR.out hs S1.out (by omega) (by omega) (by omega) hsz
            go_wp2_with fail
            refine H.mono ?_
            rintro e w2 ⟨rfl, d1, RT', S2'⟩
            clear H S1
            have RT : Aside (Rot lo m (mid + m - lo) d d1) := RT'
            have S2 : Aside (SWK fT 3 w0 blk off d1 w2) := S2'
            clear RT' S2'
            have PT : Aside (SrtI a lo d1 ∧ SrtI lo mid d1 ∧ SrtI mid (mid + m - lo) d1 ∧ SrtI (mid + m - lo) b d1 ∧ ∀ i j, a ≤ i → i < mid → mid ≤ j → j < b → leT d1[i]! d1[j]!) := CU.out.parts (by omega) (by omega) (by omega) HL0.out HR0.out RT.out
            have hs1 : d1.size = d.size := RT.out.size
            have H := IH a lo mid d1 w2 (by omega) (by omega) (by omega) (by omega) (by omega) PT.out.1 PT.out.2.1 S2.out
            unfold Mg at H
            rw [hs1] at H
            go_wp2_with fail
            refine H.mono ?_
            rintro e w3 ⟨rfl, d2, M2', S3'⟩
            clear H
            have M2 : Aside (SrtI a mid d2 ∧ Mrg a mid d1 d2) := M2'
            have S3 : Aside (SWK fT 3 w0 blk off d2 w3) := S3'
            clear M2' S3' S2
            have P3 : Aside (SrtI mid (mid + m - lo) d2 ∧ SrtI (mid + m - lo) b d2) := ⟨fun i j i1 i2 i3 => by rw [M2.out.2.out _ (.inr i1), M2.out.2.out _ (.inr (by omega))]; exact PT.out.2.2.1 i j i1 i2 i3, fun i j i1 i2 i3 => by rw [M2.out.2.out _ (.inr (by omega)), M2.out.2.out _ (.inr (by omega))]; exact PT.out.2.2.2.1 i j i1 i2 i3⟩
            have hs2 : d2.size = d.size := M2.out.2.size.trans RT.out.size
            have H := IH mid (mid + m - lo) b d2 w3 (by omega) (by omega) (by omega) (by omega) (by omega) P3.out.1 P3.out.2 S3.out
            unfold Mg at H
            rw [hs2] at H
            go_wp2_with fail
            refine H.mono ?_
            rintro e w' ⟨rfl, d3, M3, S4⟩
            clear H
            have X := mrg_both (by omega) (by omega) PT.out.2.2.2.2 M2.out.1 M2.out.2 M3.1 M3.2
            have XX : Aside (SrtI a b d3 ∧ Mrg a b d d3) := ⟨X.1, (CU.out.mrg (by omega) (by omega) hb HL0.out HR0.out RT.out).trans X.2⟩
            have S5 : Aside (SWK fT 3 w0 blk off d3 w') := S4
            clear X M3 S4 P3 PT RT M2 CU S3
            go_wp2_with fail
            go_end0
            exact ⟨rfl, d3, XX.out, S5.out⟩
          · skip
            have hf0 : (lo : Int) < (m : Int) := by omega
            have hf1 : (m : Int) < ((mid + m - lo : Nat) : Int) := by omega
            have hf2 : (a : Int) < (lo : Int) := by omega
            have hf3 : (lo : Int) < (mid : Int) := by omega
            have hf4 : (mid : Int) < ((mid + m - lo : Nat) : Int) := by omega
            have hf5 : ¬ ((mid + m - lo : Nat) : Int) < (b : Int) := by omega
            have H := rotate_any 49 #[] blk off cap lo m (mid + m - lo) d0 d w0 wr RR.out hs S1.out (by omega) (by omega) (by omega) hsz
            go_wp2_with fail
            refine H.mono ?_
            rintro e w2 ⟨rfl, d1, RT', S2'⟩
            clear H S1
            have RT : Aside (Rot lo m (mid + m - lo) d d1) := RT'
            have S2 : Aside (SWK fT 3 w0 blk off d1 w2) := S2'
            clear RT' S2'
            have PT : Aside (SrtI a lo d1 ∧ SrtI lo mid d1 ∧ SrtI mid (mid + m - lo) d1 ∧ SrtI (mid + m - lo) b d1 ∧ ∀ i j, a ≤ i → i < mid → mid ≤ j → j < b → leT d1[i]! d1[j]!) := CU.out.parts (by omega) (by omega) (by omega) HL0.out HR0.out RT.out
            have hs1 : d1.size = d.size := RT.out.size
            have H := IH a lo mid d1 w2 (by omega) (by omega) (by omega) (by omega) (by omega) PT.out.1 PT.out.2.1 S2.out
            unfold Mg at H
            rw [hs1] at H
            go_wp2_with fail
            refine H.mono ?_
            rintro e w3 ⟨rfl, d2, M2', S3'⟩
            clear H
            have M2 : Aside (SrtI a mid d2 ∧ Mrg a mid d1 d2) := M2'
            have S3 : Aside (SWK fT 3 w0 blk off d2 w3) := S3'
            clear M2' S3' S2
            have P3 : Aside (SrtI mid (mid + m - lo) d2 ∧ SrtI (mid + m - lo) b d2) := ⟨fun i j i1 i2 i3 => by rw [M2.out.2.out _ (.inr i1), M2.out.2.out _ (.inr (by omega))]; exact PT.out.2.2.1 i j i1 i2 i3, fun i j i1 i2 i3 => by rw [M2.out.2.out _ (.inr (by omega)), M2.out.2.out _ (.inr (by omega))]; exact PT.out.2.2.2.1 i j i1 i2 i3⟩
            have hs2 : d2.size = d.size := M2.out.2.size.trans RT.out.size
            have M3 : SrtI mid b d2 := by
              have e2 : mid + m - lo = b := by omega
              have := P3.out.1; rwa [e2] at this
            have X := mrg_both (by omega) (by omega) PT.out.2.2.2.2 M2.out.1 M2.out.2 M3 (Mrg.refl mid b d2)
            have XX : Aside (SrtI a b d2 ∧ Mrg a b d d2) := ⟨X.1, (CU.out.mrg (by omega) (by omega) hb HL0.out HR0.out RT.out).trans X.2⟩
            clear X M3 P3 PT RT M2 CU
            go_wp2_with fail
            go_end0
            exact ⟨rfl, d2, XX.out, S3.out⟩
        · by_cases h5 : mid + m - lo < b
          · skip
            have hf0 : (lo : Int) < (m : Int) := by omega
            have hf1 : (m : Int) < ((mid + m - lo : Nat) : Int) := by omega
            have hf2 : ¬ (a : Int) < (lo : Int) := by omega
            have hf3 : (mid : Int) < ((mid + m - lo : Nat) : Int) := by omega
            have hf4 : ((mid + m - lo : Nat) : Int) < (b : Int) := by omega
            have H := rotate_any 49 #[] blk off cap lo m (mid + m - lo) d0 d w0 wr RR.out hs S1.out (by omega) (by omega) (by omega) hsz
            go_wp2_with fail
            refine H.mono ?_
            rintro e w2 ⟨rfl, d1, RT', S2'⟩
            clear H S1
            have RT : Aside (Rot lo m (mid + m - lo) d d1) := RT'
            have S2 : Aside (SWK fT 3 w0 blk off d1 w2) := S2'
            clear RT' S2'
            have PT : Aside (SrtI a lo d1 ∧ SrtI lo mid d1 ∧ SrtI mid (mid + m - lo) d1 ∧ SrtI (mid + m - lo) b d1 ∧ ∀ i j, a ≤ i → i < mid → mid ≤ j → j < b → leT d1[i]! d1[j]!) := CU.out.parts (by omega) (by omega) (by omega) HL0.out HR0.out RT.out
            have hs1 : d1.size = d.size := RT.out.size
            have M2 : Aside (SrtI a mid d1 ∧ Mrg a mid d1 d1) := by
              refine ⟨?_, Mrg.refl a mid d1⟩
              have e2 : lo = a := by omega
              have := PT.out.2.1; rwa [e2] at this
            obtain ⟨d2, hd2⟩ : ∃ d2, d2 = d1 := ⟨_, rfl⟩
            obtain ⟨w3, hw3⟩ : ∃ w3, w3 = w2 := ⟨_, rfl⟩
            have M2 : Aside (SrtI a mid d2 ∧ Mrg a mid d1 d2) := by rw [hd2]; exact M2
            have S3 : Aside (SWK fT 3 w0 blk off d2 w3) := by rw [hd2, hw3]; exact S2
            rw [← hw3]
            clear hd2 hw3 S2
            have P3 : Aside (SrtI mid (mid + m - lo) d2 ∧ SrtI (mid + m - lo) b d2) := ⟨fun i j i1 i2 i3 => by rw [M2.out.2.out _ (.inr i1), M2.out.2.out _ (.inr (by omega))]; exact PT.out.2.2.1 i j i1 i2 i3, fun i j i1 i2 i3 => by rw [M2.out.2.out _ (.inr (by omega)), M2.out.2.out _ (.inr (by omega))]; exact PT.out.2.2.2.1 i j i1 i2 i3⟩
            have hs2 : d2.size = d.size := M2.out.2.size.trans RT.out.size
            have H := IH mid (mid + m - lo) b d2 w3 (by omega) (by omega) (by omega) (by omega) (by omega) P3.out.1 P3.out.2 S3.out
            unfold Mg at H
            rw [hs2] at H
            go_wp2_with fail
            refine H.mono ?_
            rintro e w' ⟨rfl, d3, M3, S4⟩
            clear H
            have X := mrg_both (by omega) (by omega) PT.out.2.2.2.2 M2.out.1 M2.out.2 M3.1 M3.2
            have XX : Aside (SrtI a b d3 ∧ Mrg a b d d3) := ⟨X.1, (CU.out.mrg (by omega) (by omega) hb HL0.out HR0.out RT.out).trans X.2⟩
            have S5 : Aside (SWK fT 3 w0 blk off d3 w') := S4
            clear X M3 S4 P3 PT RT M2 CU S3
            go_wp2_with fail
            go_end0
            exact ⟨rfl, d3, XX.out, S5.out⟩
          · skip
            have hf0 : (lo : Int) < (m : Int) := by omega
            have hf1 : (m : Int) < ((mid + m - lo : Nat) : Int) := by omega
            have hf2 : ¬ (a : Int) < (lo : Int) := by omega
            have hf3 : (mid : Int) < ((mid + m - lo : Nat) : Int) := by omega
            have hf4 : ¬ ((mid + m - lo : Nat) : Int) < (b : Int) := by omega
            have H := rotate_any 49 #[] blk off cap lo m (mid + m - lo) d0 d w0 wr RR.out hs S1.out (by omega) (by omega) (by omega) hsz
            go_wp2_with fail
            refine H.mono ?_
            rintro e w2 ⟨rfl, d1, RT', S2'⟩
            clear H S1
            have RT : Aside (Rot lo m (mid + m - lo) d d1) := RT'
            have S2 : Aside (SWK fT 3 w0 blk off d1 w2) := S2'
            clear RT' S2'
            have PT : Aside (SrtI a lo d1 ∧ SrtI lo mid d1 ∧ SrtI mid (mid + m - lo) d1 ∧ SrtI (mid + m - lo) b d1 ∧ ∀ i j, a ≤ i → i < mid → mid ≤ j → j < b → leT d1[i]! d1[j]!) := CU.out.parts (by omega) (by omega) (by omega) HL0.out HR0.out RT.out
            have hs1 : d1.size = d.size := RT.out.size
            have M2 : Aside (SrtI a mid d1 ∧ Mrg a mid d1 d1) := by
              refine ⟨?_, Mrg.refl a mid d1⟩
              have e2 : lo = a := by omega
              have := PT.out.2.1; rwa [e2] at this
            obtain ⟨d2, hd2⟩ : ∃ d2, d2 = d1 := ⟨_, rfl⟩
            obtain ⟨w3, hw3⟩ : ∃ w3, w3 = w2 := ⟨_, rfl⟩
            have M2 : Aside (SrtI a mid d2 ∧ Mrg a mid d1 d2) := by rw [hd2]; exact M2
            have S3 : Aside (SWK fT 3 w0 blk off d2 w3) := by rw [hd2, hw3]; exact S2
            rw [← hw3]
            clear hd2 hw3 S2
            have P3 : Aside (SrtI mid (mid + m - lo) d2 ∧ SrtI (mid + m - lo) b d2) := ⟨fun i j i1 i2 i3 => by rw [M2.out.2.out _ (.inr i1), M2.out.2.out _ (.inr (by omega))]; exact PT.out.2.2.1 i j i1 i2 i3, fun i j i1 i2 i3 => by rw [M2.out.2.out _ (.inr (by omega)), M2.out.2.out _ (.inr (by omega))]; exact PT.out.2.2.2.1 i j i1 i2 i3⟩
            have hs2 : d2.size = d.size := M2.out.2.size.trans RT.out.size
            have M3 : SrtI mid b d2 := by
              have e2 : mid + m - lo = b := by omega
              have := P3.out.1; rwa [e2] at this
            have X := mrg_both (by omega) (by omega) PT.out.2.2.2.2 M2.out.1 M2.out.2 M3 (Mrg.refl mid b d2)
            have XX : Aside (SrtI a b d2 ∧ Mrg a b d d2) := ⟨X.1, (CU.out.mrg (by omega) (by omega) hb HL0.out HR0.out RT.out).trans X.2⟩
            clear X M3 P3 PT RT M2 CU
            go_wp2_with fail
            go_end0
            exact ⟨rfl, d2, XX.out, S3.out⟩
      · skip
        by_cases h4 : lo < mid
        · skip
          have hf0 : ¬ (lo : Int) < (m : Int) := by omega
          have hf1 : (a : Int) < (lo : Int) := by omega
          have hf2 : (lo : Int) < (mid : Int) := by omega
          have hf3 : ¬ (mid : Int) < ((mid + m - lo : Nat) : Int) := by omega
          have RT : Aside (Rot lo m (mid + m - lo) d d) := by
            show Rot _ _ _ _ _
            have e2 : lo = m := by omega
            rw [e2, show mid + m - m = mid by omega]; exact Rot.refl1 d (by omega)
          obtain ⟨d1, hd1⟩ : ∃ d1, d1 = d := ⟨_, rfl⟩
          obtain ⟨w2, hw2⟩ : ∃ w2, w2 = wr := ⟨_, rfl⟩
          have S2 : Aside (SWK fT 3 w0 blk off d1 w2) := by rw [hd1, hw2]; exact S1
          have RT : Aside (Rot lo m (mid + m - lo) d d1) := by rw [hd1]; exact RT
          rw [← hw2]
          clear hd1 hw2 S1
          have PT : Aside (SrtI a lo d1 ∧ SrtI lo mid d1 ∧ SrtI mid (mid + m - lo) d1 ∧ SrtI (mid + m - lo) b d1 ∧ ∀ i j, a ≤ i → i < mid → mid ≤ j → j < b → leT d1[i]! d1[j]!) := CU.out.parts (by omega) (by omega) (by omega) HL0.out HR0.out RT.out
          have hs1 : d1.size = d.size := RT.out.size
          have H := IH a lo mid d1 w2 (by omega) (by omega) (by omega) (by omega) (by omega) PT.out.1 PT.out.2.1 S2.out
          unfold Mg at H
          rw [hs1] at H
          go_wp2_with fail
          refine H.mono ?_
          rintro e w3 ⟨rfl, d2, M2', S3'⟩
          clear H
          have M2 : Aside (SrtI a mid d2 ∧ Mrg a mid d1 d2) := M2'
          have S3 : Aside (SWK fT 3 w0 blk off d2 w3) := S3'
          clear M2' S3' S2
          have P3 : Aside (SrtI mid (mid + m - lo) d2 ∧ SrtI (mid + m - lo) b d2) := ⟨fun i j i1 i2 i3 => by rw [M2.out.2.out _ (.inr i1), M2.out.2.out _ (.inr (by omega))]; exact PT.out.2.2.1 i j i1 i2 i3, fun i j i1 i2 i3 => by rw [M2.out.2.out _ (.inr (by omega)), M2.out.2.out _ (.inr (by omega))]; exact PT.out.2.2.2.1 i j i1 i2 i3⟩
          have hs2 : d2.size = d.size := M2.out.2.size.trans RT.out.size
          have M3 : SrtI mid b d2 := by
            have e2 : mid + m - lo = mid := by omega
            have := P3.out.2; rwa [e2] at this
          have X := mrg_both (by omega) (by omega) PT.out.2.2.2.2 M2.out.1 M2.out.2 M3 (Mrg.refl mid b d2)
          have XX : Aside (SrtI a b d2 ∧ Mrg a b d d2) := ⟨X.1, (CU.out.mrg (by omega) (by omega) hb HL0.out HR0.out RT.out).trans X.2⟩
          clear X M3 P3 PT RT M2 CU
          go_wp2_with fail
          go_end0
          exact ⟨rfl, d2, XX.out, S3.out⟩
        · skip
          have hf0 : ¬ (lo : Int) < (m : Int) := by omega
          have hf1 : (a : Int) < (lo : Int) := by omega
          have hf2 : ¬ (lo : Int) < (mid : Int) := by omega
          have hf3 : ¬ (mid : Int) < ((mid + m - lo : Nat) : Int) := by omega
          have RT : Aside (Rot lo m (mid + m - lo) d d) := by
            show Rot _ _ _ _ _
            have e2 : lo = m := by omega
            rw [e2, show mid + m - m = mid by omega]; exact Rot.refl1 d (by omega)
          obtain ⟨d1, hd1⟩ : ∃ d1, d1 = d := ⟨_, rfl⟩
          obtain ⟨w2, hw2⟩ : ∃ w2, w2 = wr := ⟨_, rfl⟩
          have S2 : Aside (SWK fT 3 w0 blk off d1 w2) := by rw [hd1, hw2]; exact S1
          have RT : Aside (Rot lo m (mid + m - lo) d d1) := by rw [hd1]; exact RT
          rw [← hw2]
          clear hd1 hw2 S1
          have PT : Aside (SrtI a lo d1 ∧ SrtI lo mid d1 ∧ SrtI mid (mid + m - lo) d1 ∧ SrtI (mid + m - lo) b d1 ∧ ∀ i j, a ≤ i → i < mid → mid ≤ j → j < b → leT d1[i]! d1[j]!) := CU.out.parts (by omega) (by omega) (by omega) HL0.out HR0.out RT.out
          have hs1 : d1.size = d.size := RT.out.size
          have M2 : Aside (SrtI a mid d1 ∧ Mrg a mid d1 d1) := by
            refine ⟨?_, Mrg.refl a mid d1⟩
            have e2 : lo = mid := by omega
            have := PT.out.1; rwa [e2] at this
          obtain ⟨d2, hd2⟩ : ∃ d2, d2 = d1 := ⟨_, rfl⟩
          obtain ⟨w3, hw3⟩ : ∃ w3, w3 = w2 := ⟨_, rfl⟩
          have M2 : Aside (SrtI a mid d2 ∧ Mrg a mid d1 d2) := by rw [hd2]; exact M2
          have S3 : Aside (SWK fT 3 w0 blk off d2 w3) := by rw [hd2, hw3]; exact S2
          rw [← hw3]
          clear hd2 hw3 S2
          have P3 : Aside (SrtI mid (mid + m - lo) d2 ∧ SrtI (mid + m - lo) b d2) := ⟨fun i j i1 i2 i3 => by rw [M2.out.2.out _ (.inr i1), M2.out.2.out _ (.inr (by omega))]; exact PT.out.2.2.1 i j i1 i2 i3, fun i j i1 i2 i3 => by rw [M2.out.2.out _ (.inr (by omega)), M2.out.2.out _ (.inr (by omega))]; exact PT.out.2.2.2.1 i j i1 i2 i3⟩
          have hs2 : d2.size = d.size := M2.out.2.size.trans RT.out.size
          have M3 : SrtI mid b d2 := by
            have e2 : mid + m - lo = mid := by omega
            have := P3.out.2; rwa [e2] at this
          have X := mrg_both (by omega) (by omega) PT.out.2.2.2.2 M2.out.1 M2.out.2 M3 (Mrg.refl mid b d2)
          have XX : Aside (SrtI a b d2 ∧ Mrg a b d d2) := ⟨X.1, (CU.out.mrg (by omega) (by omega) hb HL0.out HR0.out RT.out).trans X.2⟩
          clear X M3 P3 PT RT M2 CU
          go_wp2_with fail
          go_end0
          exact ⟨rfl, d2, XX.out, S3.out⟩
theorem sym_any (blk off cap : Nat) (d0 : Array It) (w0 : World) (R : RowK fT 3 w0 blk off d0) (hsz : d0.size < 4611686018427387904) : ∀ (f a m b : Nat) (d : Array It) (w : World), b - a ≤ f → a < m → m < b → b ≤ d.size → d0.size = d.size → SrtI a m d → SrtI m b d → SWK fT 3 w0 blk off d w → Mg blk off cap d0 d w0 w a m b
  | 0, a, m, b, d, w, hf, ham, hmb, _, _, _, _, _ => absurd hf (by omega)
  | f + 1, a, m, b, d, w, hf, ham, hmb, hb, hs, hl, hr, S => by
    by_cases h1 : m = a + 1
    · exact symA blk off cap a m b d0 d w0 w R hs S h1 hmb hr hb (by omega)
    · by_cases h2 : b = m + 1
      · exact symB blk off cap a m b d0 d w0 w R hs S (by omega) h2 hl hb (by omega)
      · by_cases h3 : (a + b) / 2 < m
        · exact symC blk off cap a m b d0 d w0 w R hs S (by omega) (by omega) hl hr (fun a' m' b' d' w' h => sym_any blk off cap d0 w0 R hsz f a' m' b' d' w' (by omega)) _ rfl h3 hb (by omega)
        · exact symD blk off cap a m b d0 d w0 w R hs S (by omega) (by omega) hl hr (fun a' m' b' d' w' h => sym_any blk off cap d0 w0 R hsz f a' m' b' d' w' (by omega)) _ rfl h3 hb (by omega)
end Go.Proofs.YtdnilnjlbobcmaaDoor.Kp
/- What an iterator value is asked for by one who collects: its rounds keep what lay ahead of it. -/

namespace Go.Proofs.YtdnilnjlbobcmaaDoor.Kp
open Go.RowKit Go.Shelf Go.Lib Go.Sort Go.Maps Go.Proofs.YtdnilnjlbobcmaaDoor.Ar Go.Proofs.YtdnilnjlbobcmaaDoor.Mx
/-- As SeqGives, of one who keeps all that lay in w. -/
def Feeds {α : Type} (n : Nat) (P : Program) (g : Nat) (lb : Array Value) (enc : α → Value) (S : List α → Prop) (N : Nat) (w : World) : Prop :=
  ∀ (l : Nat) (J : List α → World → Prop) (W : World), Below w.heap.size w W → AbidesFrom W.heap.size J → (∀ xs W1, J xs W1 → Below w.heap.size w W1) →
    (∀ pre x W1, J pre W1 → pre.length < N → YieldAt Fence.wide (n - 1) P l #[enc x] W1 fun e W' => e = .returned (.bool true) ∧ J (pre ++ [x]) W' ∧ KeepsWalks W1 W') →
    J [] W →
    CallsIn Fence.wide n P g (#[.func (.yield l) #[] #[]] ++ lb) W fun e W' => (∃ v, e = .returned v) ∧ ∃ xs, S xs ∧ J xs W'
theorem cells_new (w : World) (vs : Array Value) (T : TypeId) : ∀ (j : Nat) (u : Value), vs.toList[j]? = some u → (w.alloc (.cells vs T)).cell? ((⟨w.heap.size, 0, none⟩ : Addr).add j) = some u := by
  intro j u h
  rw [addr_add, Nat.zero_add]
  unfold World.cell?
  rw [Go.heap_alloc_new]
  simpa using h
end Go.Proofs.YtdnilnjlbobcmaaDoor.Kp
/- slices.AppendSeq(nil, seq), slices.Collect(seq) at items, whatever the iterator value. -/

namespace Go.Proofs.YtdnilnjlbobcmaaDoor.Kp.ApT
open Go.RowKit Go.Shelf Go.Lib Go.Sort Go.Maps Go.Proofs.YtdnilnjlbobcmaaDoor.Ar Go.Proofs.YtdnilnjlbobcmaaDoor.Mx Go.Proofs.YtdnilnjlbobcmaaDoor.Kp
set_option linter.unusedVariables false
set_option linter.unusedSimpArgs false
def enc (x : It) : Value := .agg #[.int .i64 x.k, .int .i64 x.v, .int .i64 x.d]
def assign : Code := Code.region 2 #[{ dst := some 5, op := Op.alloc 43, type := 0, pos := "iter.go:51", after := #[], guard := none }, { dst := none, op := Op.store 43 (Operand.tmp 5) (Operand.tmp 7), type := 0, pos := "iter.go:51", after := #[{ on := 0, ground := Ground.data }, { on := 0, ground := Ground.phase }], guard := none }] false
def body : Code := Code.block 1 (Code.region 3 #[{ dst := some 8, op := Op.load 22 (Operand.tmp 2), type := 22, pos := "iter.go:52", after := #[], guard := none }, { dst := some 9, op := Op.load 43 (Operand.tmp 5), type := 43, pos := "iter.go:52", after := #[], guard := none }, { dst := some 10, op := Op.buildSlice 22 1 #[(0, Operand.tmp 9)], type := 22, pos := "iter.go:52", after := #[{ on := 1, ground := Ground.data }], guard := none }, { dst := some 11, op := Op.call { callee := Callee.builtin Builtin.append, args := #[Operand.tmp 8, Operand.tmp 10], argTypes := #[22, 22] }, type := 22, pos := "iter.go:52", after := #[{ on := 0, ground := Ground.data }, { on := 2, ground := Ground.data }], guard := none }, { dst := none, op := Op.store 22 (Operand.tmp 2) (Operand.tmp 11), type := 0, pos := "iter.go:52", after := #[{ on := 3, ground := Ground.data }, { on := 3, ground := Ground.chain }, { on := 0, ground := Ground.phase }, { on := 1, ground := Ground.phase }, { on := 2, ground := Ground.phase }, { on := 3, ground := Ground.phase }], guard := none }] false)
/-- The loop's record. -/
def rec (fn : FuncId) (sv : Value) (Bs D : Nat) (st : LoopState) : Loop :=
  { state := st, pending := none, fn, tmps := #[.slice none 0 0, sv, .pointer (some ⟨Bs, 0, none⟩), undef, .slice none 0 0, undef, sv, undef, undef, undef, undef, undef, undef], params := #[7], assign := assign, body := body, defers := D }
/-- Between two rounds: what has come so far lies in a row of the call's own. -/
structure At (w0 : World) (fn : FuncId) (sv : Value) (Bs l D : Nat) (ss : List It) (W : World) : Prop where
  box : ∃ v, W.heap[Bs]? = some (.cells #[v] 22 (0, 0)) ∧ W.ownsRow w0.heap.size 43 3 v ss.length (ss.flatMap fT)
  lp : W.heap[l]? = some (.loop (rec fn sv Bs D .ready))
  df : W.heap[D]? = some (.deferred (some []))
  below : Below w0.heap.size w0 W
theorem At.abides (w0 : World) (fn : FuncId) (sv : Value) (Bs l D B : Nat) (hB : w0.heap.size ≤ B) : AbidesFrom B (At w0 fn sv Bs l D) := fun s W W' row h hg hrow => by
  have hrow' : ∀ r, row = some r → ∃ o : Obj, W.heap[r]? = some o ∧ o.isWalk = true := fun r e => (hrow r e).2
  obtain ⟨v, hv, hr⟩ := h.box
  exact ⟨⟨v, (grownBy_keeps hg hrow' hv rfl).trans hv, ownsRow_abides_a hr hg hrow'⟩, (grownBy_keeps hg hrow' h.lp rfl).trans h.lp, (grownBy_keeps hg hrow' h.df rfl).trans h.df,
    h.below.grown hg h.below.size (fun k e => Nat.le_trans hB (hrow k e).1)⟩
theorem ne_es {W : World} {base : Nat} {v : Value} {k : Nat} {xs : List Value} {j : Nat} {u : Value} (h : W.ownsRow base 43 3 v k xs) (hj : W.heap[j]? = some (.cells #[u] 22 (0, 0))) : v.ownBlock = none ∨ v.ownBlock ≠ some j :=
  ownsRow_ne_a h hj (fun cur e => absurd (Obj.cells.inj e).2.1 (by decide))
theorem ne_lp {W : World} {base : Nat} {v : Value} {k : Nat} {xs : List Value} {j : Nat} {r : Loop} (h : W.ownsRow base 43 3 v k xs) (hj : W.heap[j]? = some (.loop r)) : v.ownBlock = none ∨ v.ownBlock ≠ some j :=
  ownsRow_ne_a h hj (fun cur e => by cases e)
theorem ne_df {W : World} {base : Nat} {v : Value} {k : Nat} {xs : List Value} {j : Nat} {r : Option (List Deferred)} (h : W.ownsRow base 43 3 v k xs) (hj : W.heap[j]? = some (.deferred r)) : v.ownBlock = none ∨ v.ownBlock ≠ some j :=
  ownsRow_ne_a h hj (fun cur e => by cases e)
theorem some_ne {v : Value} {j : Nat} (h : v.ownBlock = none ∨ v.ownBlock ≠ some j) : some j ≠ v.ownBlock := by
  rcases h with e | e
  · rw [e]; simp
  · exact fun e' => e e'.symm
set_option maxRecDepth 100000 in
set_option maxHeartbeats 3200000 in
theorem round (m : Nat) (w0 : World) (fn : FuncId) (sv : Value) (Bs l D : Nat) (hBl : Bs ≠ l) (hDl : D ≠ l) (hDB : D ≠ Bs) (h0B : w0.heap.size ≤ Bs) (h0l : w0.heap.size ≤ l) (ss : List It) (x : It) (W : World) (h : At w0 fn sv Bs l D ss W) (hlen : ss.length < 1000) :
    YieldAt Fence.wide m Tryd.prog l #[enc x] W fun e W' => e = .returned (.bool true) ∧ At w0 fn sv Bs l D (ss ++ [x]) W' ∧ KeepsWalks W W' := by
  obtain ⟨i0, hi, hz0, hz1, hz2⟩ := info_parts itI
  refine ⟨fn, #[.slice none 0 0, sv, .pointer (some ⟨Bs, 0, none⟩), undef, .slice none 0 0, undef, sv, enc x, undef, undef, undef, undef, undef], assign, body, by simpa [rec] using run_yield (P := Tryd.prog) (args := #[enc x]) h.lp rfl, roundIn_of_wpIn trivial ?_⟩
  obtain ⟨W1, hW1⟩ : ∃ W1, W.alloc (.cells #[.int .i64 x.k, .int .i64 x.v, .int .i64 x.d] 43) = W1 := ⟨_, rfl⟩
  have h1 : At w0 fn sv Bs l D ss W1 := by rw [← hW1]; exact At.abides w0 fn sv Bs l D w0.heap.size (Nat.le_refl _) ss W _ none h (World.grownBy_alloc W _ none) (fun r e => by cases e)
  have hk1 : KeepsWalks W W1 := by rw [← hW1]; exact KeepsWalks.alloc _ _
  have hc1 : W1.heap[W.heap.size]? = some (.cells #[.int .i64 x.k, .int .i64 x.v, .int .i64 x.d] 43 (0, 0)) := by rw [← hW1]; exact Go.heap_alloc_new _ _
  obtain ⟨v, hv, hrow⟩ := h1.box
  have hl : l < W1.heap.size := (Array.getElem?_eq_some_iff.1 h1.lp).1
  have hbr := run_beginRound (P := Tryd.prog) h1.lp rfl
  obtain ⟨W5, hW2⟩ : ∃ W2, W1.putObj l (.loop { rec fn sv Bs D .ready with state := .busy }) = W2 := ⟨_, rfl⟩
  rw [hW2] at hbr
  have hg2 : W1.grownBy W5 (some l) := by rw [← hW2]; exact grownBy_putObj_a _ _ _
  have hk5 : KeepsWalks W W5 := hk1.trans (by rw [← hW2]; exact KeepsWalks.putObj _ h1.lp rfl)
  have hv5 : W5.heap[Bs]? = some (.cells #[v] 22 (0, 0)) := by rw [← hW2]; exact (World.putObj_heap_other hBl).trans hv
  have hK5 : W5.heap[D]? = some (.deferred (some [])) := by rw [← hW2]; exact (World.putObj_heap_other hDl).trans h1.df
  have hL5 : W5.heap[l]? = some (.loop { rec fn sv Bs D .ready with state := .busy }) := by rw [← hW2]; exact World.putObj_heap_same hl
  have hrow5 := hrow.kept hg2 (ne_lp hrow h1.lp)
  have hb5 : Below w0.heap.size w0 W5 := h1.below.grown hg2 h1.below.size (fun k e => by cases e; exact h0l)
  have hc5 : W5.heap[W.heap.size]? = some (.cells #[.int .i64 x.k, .int .i64 x.v, .int .i64 x.d] 43 (0, 0)) := by
    rw [← hW2]; exact (World.putObj_heap_other (fun e => by rw [e, h1.lp] at hc1; cases hc1)).trans hc1
  obtain ⟨c50, c51, c52⟩ := cells3 hc5
  clear hW2
  obtain ⟨hc2, hf2⟩ := cell_of_box_a hv5
  have hBlt : Bs < W5.heap.size := (Array.getElem?_eq_some_iff.1 hv5).1
  have hl5 : l < W5.heap.size := (Array.getElem?_eq_some_iff.1 hL5).1
  have hDlt : D < W5.heap.size := (Array.getElem?_eq_some_iff.1 hK5).1
  unfold assign enc
  gi_wp2_with gi_round_op_a
  unfold body
  gi_wp2_with (first
    | (gi_at_builtin; refine wpListIn_append_own _ rfl _ _ 22 rfl w0.heap.size 43 i0 _ 3 24 Tryd.underlying22 hi hz0 hz1 hz2 rfl (by decide) _ _ _ rfl (hrow5.alloc _) ⟨W5.heap.size, 0, none⟩ 1 1 [.int .i64 x.k, .int .i64 x.v, .int .i64 x.d] rfl rfl (cells_new _ _ _) (by simp [Value.oneCell']) (by unfold maxLen; omega) (by omega) (by have := hb5.size; simp; omega) ?_; intro v' w3 hown' hg3 hnil3
       have hv3 : w3.heap[Bs]? = some (.cells #[v] 22 (0, 0)) := (hg3.block Bs (by simp; omega) (some_ne (ne_es hrow5 hv5))).trans ((Below.heap_alloc _ _ Bs hBlt).trans hv5)
       obtain ⟨hc3, hf3⟩ := cell_of_box_a hv3
       obtain ⟨g', cap', cur', rfl, hbase', hgb', hr1, hr2, hr3, hr4⟩ : ∃ g' cap' cur', v' = .slice (some ⟨g', 0, none⟩) (ss.length + 1) cap' ∧ w0.heap.size ≤ g' ∧ w3.heap[g']? = some (.cells cur' 43 (0, 0)) ∧ ss.length + 1 ≤ cap' ∧ cap' ≤ maxLen ∧ cur'.size = cap' * 3 ∧ cur'.toList.take ((ss.length + 1) * 3) = ss.flatMap fT ++ [.int .i64 x.k, .int .i64 x.v, .int .i64 x.d] := by
         rcases hown'.2 with ⟨_, h0⟩ | h'
         · exact absurd h0 (by omega)
         · exact h'
       go_frame)
    | gi_round_op_a)
  have hg3' : (W5.alloc (.cells #[.int .i64 x.k, .int .i64 x.v, .int .i64 x.d] 43)).grownBy w3 v.ownBlock := hg3
  have hL3 : w3.heap[l]? = some (.loop { rec fn sv Bs D .ready with state := .busy }) := (hg3'.block l (by simp; omega) (some_ne (ne_lp hrow5 hL5))).trans ((Below.heap_alloc _ _ l hl5).trans hL5)
  have hK3 : w3.heap[D]? = some (.deferred (some [])) := (hg3'.block D (by simp; omega) (some_ne (ne_df hrow5 hK5))).trans ((Below.heap_alloc _ _ D hDlt).trans hK5)
  obtain ⟨w4, hw4⟩ : ∃ w4, w3.setCell ⟨Bs, 0, none⟩ (.slice (some ⟨g', 0, none⟩) (ss.length + 1) cap') = w4 := ⟨_, rfl⟩
  rw [hw4]
  have hg4 : w3.grownBy w4 (some Bs) := by rw [← hw4]; exact grownBy_setCell0_a _ _ _
  have hv4 : w4.heap[Bs]? = some (.cells #[.slice (some ⟨g', 0, none⟩) (ss.length + 1) cap'] 22 (0, 0)) := by rw [← hw4]; exact heap_setCell_box_a _ hv3
  have hL4 : w4.heap[l]? = some (.loop { rec fn sv Bs D .ready with state := .busy }) := (hg4.block l (Array.getElem?_eq_some_iff.1 hL3).1 (fun e => hBl (by cases e; rfl))).trans hL3
  have hK4 : w4.heap[D]? = some (.deferred (some [])) := (hg4.block D (Array.getElem?_eq_some_iff.1 hK3).1 (fun e => hDB (by cases e; rfl))).trans hK3
  have hrow4 := hown'.kept hg4 (ne_es hown' hv3)
  have hl4 : l < w4.heap.size := (Array.getElem?_eq_some_iff.1 hL4).1
  have hb3 : Below w0.heap.size w0 w3 := (hb5.alloc hb5.size _).grown hg3' (by have := hb5.size; simp; omega) (fun k e => (hrow5.lt k e).1)
  have hb4 : Below w0.heap.size w0 w4 := hb3.grown hg4 hb3.size (fun k e => by cases e; exact h0B)
  have hk4 : KeepsWalks W w4 := ((hk5.trans (KeepsWalks.alloc _ _)).trans (KeepsWalks.of_grownBy hg3' (ownsRow_not_walk_a (hrow5.alloc _)))).trans (by rw [← hw4]; exact KeepsWalks.setCell _ _ _)
  clear hw4
  have hrow6 := hrow4.kept (grownBy_putObj_a w4 l (.loop { { rec fn sv Bs D .ready with state := .busy } with state := .ready, pending := none })) (ne_lp hrow4 hL4)
  refine ⟨_, _, run_endRound none hL4, rfl, ⟨⟨_, (World.putObj_heap_other hBl).trans hv4, ?_⟩, World.putObj_heap_same hl4, (World.putObj_heap_other hDl).trans hK4, hb4.grown (grownBy_putObj_a _ _ _) hb4.size (fun k e => by cases e; exact h0l)⟩, hk4.trans (KeepsWalks.putObj _ hL4 rfl)⟩
  rw [List.length_append, List.flatMap_append]
  simpa [fT] using hrow6
set_option maxRecDepth 100000 in
set_option maxHeartbeats 2000000 in
/-- slices.AppendSeq(nil, seq): a row of the call's own that holds what has come, in that order. -/
theorem appendSeq (n : Nat) (hn : 2 ≤ n) (g : Nat) (lb : Array Value) (eg : ∀ args w, (callFunc g args).run Tryd.prog w = .ok (.enter g args) w) (S : List It → Prop) (N : Nat) (hN : N ≤ 1000) (w : World) (hseq : Feeds (n - 1) Tryd.prog g lb enc S N w) :
    CallsIn Fence.wide n Tryd.prog 65 #[.slice none 0 0, .func (.func g) #[] lb] w fun e w' => ∃ (v : Value) (ss : List It), e = .returned v ∧ S ss ∧ w'.ownsRow w.heap.size 43 3 v ss.length (ss.flatMap fT) ∧ Below w.heap.size w w' := by
  have h1 : 1 ≤ n := by omega
  have hro : Fence.wide.round = none := rfl
  refine callsIn_of_wp_marks Tryd.func65 rfl trivial ?_ hro
  simp only [Tryd.ntmps65, List.size_toArray, List.length_cons, List.length_nil, Nat.reduceAdd, Nat.reduceSub, Array.replicate_succ, Array.replicate_zero, List.push_toArray, List.append_toArray, List.nil_append, List.cons_append]
  gi_wp2
  refine wpIn_rangeFunc ?_
  intro fn hfn
  rw [hro]
  obtain ⟨W0, hW0⟩ : ∃ W0, w.alloc (.cells #[.slice none 0 0] 22) = W0 := ⟨_, rfl⟩
  have hs0 : W0.heap.size = w.heap.size + 1 := by rw [← hW0]; simp
  have hv0 : W0.heap[w.heap.size]? = some (.cells #[.slice none 0 0] 22 (0, 0)) := by rw [← hW0]; exact World.alloc_heap_new w _
  have hb0 : Below w.heap.size w W0 := by rw [← hW0]; exact (Below.refl _ w).alloc (Nat.le_refl _) _
  rw [hW0]
  obtain ⟨W1, hW1⟩ : ∃ W1, (W0.alloc (.deferred (some []))).alloc (.loop (rec fn (.func (.func g) #[] lb) w.heap.size W0.heap.size .ready)) = W1 := ⟨_, rfl⟩
  have hold : ∀ k, k < W0.heap.size → W1.heap[k]? = W0.heap[k]? := fun k hk => by
    rw [← hW1]; exact (Below.heap_alloc _ _ k (by simp; omega)).trans (Below.heap_alloc _ _ k hk)
  have hb1 : Below w.heap.size w W1 := by rw [← hW1]; exact (hb0.alloc hb0.size _).alloc (by have := hb0.size; simp; omega) _
  have hs1 : W1.heap.size = W0.heap.size + 2 := by rw [← hW1]; simp
  have hM : At w fn (.func (.func g) #[] lb) w.heap.size (W0.heap.size + 1) W0.heap.size [] W1 :=
    ⟨⟨_, (hold w.heap.size (by omega)).trans hv0, ⟨rfl, .inl ⟨rfl, rfl⟩⟩⟩,
     by rw [← hW1]; have := World.alloc_heap_new (W0.alloc (.deferred (some []))) (.loop (rec fn (.func (.func g) #[] lb) w.heap.size W0.heap.size .ready)); rwa [World.size_alloc] at this,
     by rw [← hW1]; exact (Below.heap_alloc _ _ _ (by simp)).trans (World.alloc_heap_new W0 _), hb1⟩
  refine ⟨W0.heap.size + 1, [{ target := .collected W0.heap.size, args := #[] }], W1, { target := .fn (.func g) lb, args := #[.func (.yield (W0.heap.size + 1)) #[] #[]] }, W1, g,
    #[.func (.yield (W0.heap.size + 1)) #[] #[]] ++ lb, W1, ?_, ?_, ?_, ?_, fun _ => h1, ?_⟩
  · rw [← hW1]; exact run_enterLoop_outer _ _ _ _ _
  · simp [resolve, go_sem]
  · intro f' hf'; trivial
  · simp [invoke, go_sem, eg]
  · refine (hseq (W0.heap.size + 1) (At w fn (.func (.func g) #[] lb) w.heap.size (W0.heap.size + 1) W0.heap.size) W1 hb1 (At.abides _ _ _ _ _ _ _ hb1.size) (fun xs W h => h.below)
      (fun pre x W hJ hl => round (n - 1 - 1) w fn _ w.heap.size (W0.heap.size + 1) W0.heap.size (by omega) (by omega) (by omega) (Nat.le_refl _) (by omega) pre x W hJ (by omega)) hM).mono ?_
    rintro e W2 ⟨⟨v0, rfl⟩, ss, hS, h2⟩
    obtain ⟨v, hv, hrow⟩ := h2.box
    have hend := run_endLoop (P := Tryd.prog) h2.lp (by simp [rec])
    obtain ⟨W3, hW3⟩ : ∃ W3, W2.putObj (W0.heap.size + 1) (.loop { rec fn (.func (.func g) #[] lb) w.heap.size W0.heap.size .ready with state := .exhausted }) = W3 := ⟨_, rfl⟩
    rw [hW3] at hend
    have hg3 : W2.grownBy W3 (some (W0.heap.size + 1)) := by rw [← hW3]; exact grownBy_putObj_a _ _ _
    have hv3 : W3.heap[w.heap.size]? = some (.cells #[v] 22 (0, 0)) := by rw [← hW3]; exact (World.putObj_heap_other (by omega)).trans hv
    have hK3 : W3.heap[W0.heap.size]? = some (.deferred (some [])) := by rw [← hW3]; exact (World.putObj_heap_other (by omega)).trans h2.df
    have hrow3 := hrow.kept hg3 (ne_lp hrow h2.lp)
    have hb3 : Below w.heap.size w W3 := h2.below.grown hg3 h2.below.size (fun k e => by cases e; omega)
    obtain ⟨hc3, hf3⟩ := cell_of_box_a hv3
    clear hW3
    refine ⟨none, W3, hend, ?_⟩
    gi_wp2
    rw [← hs0]
    refine ⟨by simp, .inl ⟨_, _, rfl, run_takeDeferred hK3, ?_⟩⟩
    exact ⟨_, results_tmp rfl _ _ _, v, ss, rfl, hS, hrow3.kept (grownBy_putObj_a _ _ _) (ne_df hrow3 hK3), hb3.grown (grownBy_putObj_a _ _ _) hb3.size (fun k e => by cases e; omega)⟩
set_option maxHeartbeats 1000000 in
/-- slices.Collect(seq). -/
theorem collect (n : Nat) (hn : 3 ≤ n) (g : Nat) (lb : Array Value) (eg : ∀ args w, (callFunc g args).run Tryd.prog w = .ok (.enter g args) w) (S : List It → Prop) (N : Nat) (hN : N ≤ 1000) (w : World) (hseq : Feeds (n - 1 - 1) Tryd.prog g lb enc S N w) :
    CallsIn Fence.wide n Tryd.prog 56 #[.func (.func g) #[] lb] w fun e w' => ∃ (v : Value) (ss : List It), e = .returned v ∧ S ss ∧ w'.ownsRow w.heap.size 43 3 v ss.length (ss.flatMap fT) ∧ Below w.heap.size w w' := by
  have h1 : 1 ≤ n := by omega
  have eA : ∀ args w, (callFunc 65 args).run Tryd.prog w = .ok (.enter 65 args) w := enters_of Tryd.func65 (by kernel_rfl) rfl
  have hF : Fence.wide.fn 65 := trivial
  refine callsIn_of_wp Tryd.func56 rfl trivial ?_ rfl
  simp only [Tryd.ntmps56, List.size_toArray, List.length_cons, List.length_nil, Nat.reduceAdd, Nat.reduceSub, Array.replicate_succ, Array.replicate_zero, List.push_toArray, List.append_toArray, List.nil_append, List.cons_append]
  gi_wp2_with (gi_at_fn 65; refine (appendSeq (n - 1) (by omega) g lb eg S N hN _ hseq).mono ?_; rintro e w' ⟨v, ss, rfl, hS, hrow, hb⟩)
  go_ret
  exact ⟨v, ss, rfl, hS, hrow, hb⟩
end Go.Proofs.YtdnilnjlbobcmaaDoor.Kp.ApT
/- slices' stable sort at items, up to 40 of them; slices.Values at items. -/

namespace Go.Proofs.YtdnilnjlbobcmaaDoor.Kp
open Go.RowKit Go.Shelf Go.Lib Go.Sort Go.Maps Go.Proofs.YtdnilnjlbobcmaaDoor.Ar Go.Proofs.YtdnilnjlbobcmaaDoor.Mx
set_option linter.unusedVariables false
set_option linter.unusedSimpArgs false
/-- slices.insertionSortCmpFunc. -/
theorem ins_any (blk off cap a b : Nat) (d0 d : Array It) (w0 w : World) (R : RowK fT 3 w0 blk off d0) (hs : d0.size = d.size) (S : SWK fT 3 w0 blk off d w) (hab : a ≤ b) (hb : b ≤ d.size) (hsz : d.size < 4611686018427387904) :
    Calls Tryd.prog 80 #[.slice (some ⟨blk, off, none⟩) d.size cap, .int .i64 a, .int .i64 b, .func (.func 49) #[] #[]] w fun e w' =>
      e = .returned (.tuple #[]) ∧ ∃ d', (SrtI a b d' ∧ Mrg a b d d') ∧ SWK fT 3 w0 blk off d' w' := by
  have L : SlLaysF0.n20 Tryd.prog Tryd.insF_ren := Tryd.insF
  have hH := S.holds R.hblk R.hH hs.symm
  have h := AnyQ.insertionSortCmpFunc L 3 (by intro w; kernel_rfl) (by intro w; kernel_rfl) fT (fun _ => rfl) R.h1 cfT 49 #[] blk off cap a b d w (enters_of Tryd.func49 (by kernel_rfl) rfl) (cmpLays blk off d.size w) hH (S.lt R.hblk) hab hb hsz
  refine h.mono ?_
  rintro e w' ⟨rfl, n, os, rfl⟩
  exact ⟨rfl, _, ins_mrg hab hb, S.on R.hblk n _ os (by have := (insertionSort_holds cfT_swo d a b hab hb).1.1; simpa [ltOf] using this)⟩
/-- Behind the first loop: blocks of twenty, each in order. -/
structure Blk (n : Nat) (d dk : Array It) : Prop where
  size : dk.size = d.size
  cls : Cls d dk
  lo : SrtI 0 (min 20 n) dk
  hi : SrtI 20 n dk
structure All (n : Nat) (d dk : Array It) : Prop where
  size : dk.size = d.size
  cls : Cls d dk
  srt : SrtI 0 n dk
set_option maxHeartbeats 6400000 in
set_option maxRecDepth 1000000 in
theorem stable_any (blk off cap n : Nat) (d0 d : Array It) (w0 w : World) (R : RowK fT 3 w0 blk off d0) (hs : d0.size = d.size) (S : SWK fT 3 w0 blk off d w) (hn : d.size = n) (h40 : n ≤ 40) :
    Calls Tryd.prog 66 #[.slice (some ⟨blk, off, none⟩) n cap, .int .i64 n, .func (.func 49) #[] #[]] w fun e w' =>
      e = .returned (.tuple #[]) ∧ ∃ d', (d'.toList = sortT d.toList ∧ d'.size = d.size) ∧ SWK fT 3 w0 blk off d' w' := by
  have S0 : Aside (SWK fT 3 w0 blk off d w) := S
  have RR : Aside (RowK fT 3 w0 blk off d0) := R
  have HN : Aside (d.size = n) := hn
  have hn1 : d.size ≤ n := by omega
  have hn2 : n ≤ d.size := by omega
  clear S R hn
  go_enter Tryd.func66, Tryd.ntmps66
  go_wp2_with fail
  go_loopg [7, 8] 2 (fun kx s7 s8 wr => ∃ (a b k : Nat) (dk : Array It), s7 = .int .i64 (a : Nat) ∧ s8 = .int .i64 (b : Nat) ∧ 20 * k ≤ a ∧ a ≤ 20 * k ∧ a + 20 ≤ b ∧ b ≤ a + 20 ∧ a ≤ n ∧ 2 - k ≤ kx ∧ k ≤ 2 ∧ Aside (SWK fT 3 w0 blk off dk wr) ∧ Aside (Mrg 0 n d dk ∧ (1 ≤ k → SrtI 0 20 dk) ∧ (2 ≤ k → SrtI 20 40 dk)))
  case atStart => exact ⟨0, 20, 0, d, rfl, rfl, by omega, by omega, by omega, by omega, by omega, by omega, by omega, S0, Mrg.refl _ _ _, by omega, by omega⟩
  case round =>
    clear S0
    obtain ⟨a, b, k, dk, rfl, rfl, ha1, ha2, hb3, hb4, hk, hkx, hk2, S1, HW⟩ := hrel
    have hds : dk.size = d.size := HW.out.1.size
    by_cases hlt : b ≤ n
    · have hltz : (b : Int) ≤ (n : Int) := by omega
      have H := ins_any blk off cap a b d0 dk w0 wr RR.out (by omega) S1.out (by omega) (by omega) (by omega)
      rw [show dk.size = n by omega] at H
      have hk3 : k ≤ 1 := by omega
      go_wp2_with (go_at_call 80; refine H.mono ?_; rintro e w2 ⟨rfl, d1, ⟨hs1, hm1⟩, S2'⟩)
      clear H S1
      have S2 : Aside (SWK fT 3 w0 blk off d1 w2) := S2'
      have W2 : Aside (Mrg 0 n d d1 ∧ (1 ≤ k + 1 → SrtI 0 20 d1) ∧ (2 ≤ k + 1 → SrtI 20 40 d1)) := by
        refine ⟨HW.out.1.trans (hm1.mono (by omega) (by omega)), fun _ => ?_, fun h => ?_⟩
        · rcases (show k = 0 ∨ k = 1 by omega) with rfl | rfl
          · have h1 : a = 0 := by omega
            have h2 : b = 20 := by omega
            rw [h1, h2] at hs1; exact hs1
          · have h0 := HW.out.2.1 (by omega)
            exact fun i j i1 ij jb => by rw [hm1.out _ (.inl (by omega)), hm1.out _ (.inl (by omega))]; exact h0 i j i1 ij jb
        · have h1 : a = 20 := by omega
          have h2 : b = 40 := by omega
          rw [h1, h2] at hs1; exact hs1
      clear S2' hs1 hm1 HW
      go_wp2_with fail
      go_roundg (2 - (k + 1))
      case measure => omega
      case rel =>
        exact ⟨b, b + 20, k + 1, d1, rfl, by first | rfl | go_num, by omega, by omega, by omega, by omega, by omega, by omega, by omega, S2, W2⟩
    · have hltz : ¬ (b : Int) ≤ (n : Int) := by omega
      have H := ins_any blk off cap a n d0 dk w0 wr RR.out (by omega) S1.out (by omega) (by omega) (by omega)
      rw [show dk.size = n by omega] at H
      go_wp2_with fail
      refine H.mono ?_
      rintro e w2 ⟨rfl, d1, ⟨hs1, hm1⟩, S2'⟩
      clear H S1
      have S2 : Aside (SWK fT 3 w0 blk off d1 w2) := S2'
      have W2 : Aside (Blk n d d1) := by
        have hM := HW.out.1.trans (hm1.mono (Nat.zero_le a) (Nat.le_refl n))
        rcases (show k = 0 ∨ k = 1 ∨ k = 2 by omega) with rfl | rfl | rfl
        · have h1 : a = 0 := by omega
          rw [h1] at hs1
          exact ⟨hM.size, hM.cls, fun i j i1 ij jb => hs1 i j i1 ij (by omega), SrtI.none (by omega)⟩
        · have h1 : a = 20 := by omega
          have h0 := HW.out.2.1 (by omega)
          rw [h1] at hs1 hm1
          exact ⟨hM.size, hM.cls, fun i j i1 ij jb => by rw [hm1.out _ (.inl (by omega)), hm1.out _ (.inl (by omega))]; exact h0 i j i1 ij (by omega), hs1⟩
        · have h1 : a = 40 := by omega
          have h0 := HW.out.2.1 (by omega)
          have h2 := HW.out.2.2 (by omega)
          rw [h1] at hm1
          exact ⟨hM.size, hM.cls, fun i j i1 ij jb => by rw [hm1.out _ (.inl (by omega)), hm1.out _ (.inl (by omega))]; exact h0 i j i1 ij (by omega), fun i j i1 ij jb => by rw [hm1.out _ (.inl (by omega)), hm1.out _ (.inl (by omega))]; exact h2 i j i1 ij (by omega)⟩
      clear S2' hs1 hm1 HW
      go_wp2_with fail
      by_cases h20 : n ≤ 20
      · have h20z : ¬ (20 : Int) < (n : Int) := by omega
        go_loopg [6] 0 (fun kx s6 wr => s6 = .int .i64 20 ∧ Aside (SWK fT 3 w0 blk off d1 wr))
        case atStart => exact ⟨rfl, S2⟩
        case round =>
          clear S2
          obtain ⟨rfl, S3⟩ := hrel
          go_wp2_with fail
          go_end0
          refine ⟨rfl, d1, ⟨stable_eq W2.out.size ?_ W2.out.cls, W2.out.size⟩, S3.out⟩
          rw [HN.out]
          exact fun i j i1 ij jb => W2.out.lo i j i1 ij (by omega)
      · go_loopg [6] 1 (fun kx s6 wr => ∃ dk : Array It, Aside (SWK fT 3 w0 blk off dk wr) ∧ ((s6 = .int .i64 20 ∧ 1 ≤ kx ∧ Aside (Blk n d dk)) ∨ (s6 = .int .i64 40 ∧ Aside (All n d dk))))
        case atStart => exact ⟨d1, S2, .inl ⟨rfl, by omega, W2⟩⟩
        case round =>
          clear S2 W2
          obtain ⟨dk, S3, ⟨rfl, hkx1, W3⟩ | ⟨rfl, W3⟩⟩ := hrel
          · have h20z : (20 : Int) < (n : Int) := by omega
            have hds3 : dk.size = d.size := W3.out.size
            by_cases h40n : n < 40
            · have h40z : ¬ (40 : Int) ≤ (n : Int) := by omega
              go_wp2_with fail
              go_loopg [7, 8] 0 (fun kx s7 s8 wr => s7 = .int .i64 0 ∧ s8 = .int .i64 40 ∧ Aside (SWK fT 3 w0 blk off dk wr))
              case atStart => exact ⟨rfl, rfl, S3⟩
              case round =>
                clear S3
                obtain ⟨rfl, rfl, S4⟩ := hrel
                have H := sym_any blk off cap d0 w0 RR.out (by omega) n 0 20 n dk wr (by omega) (by omega) (by omega) (by omega) (by omega) (fun i j i1 ij jb => W3.out.lo i j i1 ij (by omega)) W3.out.hi S4.out
                unfold Mg at H
                rw [show dk.size = n by omega, show ((0 : Nat) : Int) = 0 from rfl, show ((20 : Nat) : Int) = 20 from rfl] at H
                go_wp2_with fail
                refine H.mono ?_
                rintro e w4 ⟨rfl, d4, ⟨hs4, hm4⟩, S5'⟩
                clear H S4
                have S5 : Aside (SWK fT 3 w0 blk off d4 w4) := S5'
                have W5 : Aside (All n d d4) := ⟨hm4.size.trans hds3, fun k v => (hm4.cls k v).trans (W3.out.cls k v), hs4⟩
                clear S5' hs4 hm4
                go_wp2_with fail
                go_roundg 0
                case measure => omega
                case rel => exact ⟨d4, S5, .inr ⟨rfl, W5⟩⟩
            · have h40z : (40 : Int) ≤ (n : Int) := by omega
              have h80z : ¬ (80 : Int) ≤ (n : Int) := by omega
              have h60z : ¬ (60 : Int) < (n : Int) := by omega
              go_wp2_with fail
              go_loopg [7, 8] 1 (fun kx s7 s8 wr => ∃ dk : Array It, Aside (SWK fT 3 w0 blk off dk wr) ∧ ((s7 = .int .i64 0 ∧ s8 = .int .i64 40 ∧ 1 ≤ kx ∧ Aside (Blk n d dk)) ∨ (s7 = .int .i64 40 ∧ s8 = .int .i64 80 ∧ Aside (All n d dk))))
              case atStart => exact ⟨dk, S3, .inl ⟨rfl, rfl, by omega, W3⟩⟩
              case round =>
                clear S3 W3 hds3
                obtain ⟨dk, S4, ⟨rfl, rfl, hkx2, W4⟩ | ⟨rfl, rfl, W4⟩⟩ := hrel
                · have hds4 : dk.size = d.size := W4.out.size
                  have H := sym_any blk off cap d0 w0 RR.out (by omega) 40 0 20 40 dk wr (by omega) (by omega) (by omega) (by omega) (by omega) (fun i j i1 ij jb => W4.out.lo i j i1 ij (by omega)) (fun i j i1 ij jb => W4.out.hi i j i1 ij (by omega)) S4.out
                  unfold Mg at H
                  rw [show dk.size = n by omega, show ((0 : Nat) : Int) = 0 from rfl, show ((20 : Nat) : Int) = 20 from rfl, show ((40 : Nat) : Int) = 40 from rfl] at H
                  go_wp2_with fail
                  refine H.mono ?_
                  rintro e w4 ⟨rfl, d4, ⟨hs4, hm4⟩, S5'⟩
                  clear H S4
                  have S5 : Aside (SWK fT 3 w0 blk off d4 w4) := S5'
                  have W5 : Aside (All n d d4) := ⟨hm4.size.trans hds4, fun k v => (hm4.cls k v).trans (W4.out.cls k v), fun i j i1 ij jb => hs4 i j i1 ij (by omega)⟩
                  clear S5' hs4 hm4
                  go_wp2_with fail
                  go_roundg 0
                  case measure => omega
                  case rel => exact ⟨d4, S5, .inr ⟨rfl, rfl, W5⟩⟩
                · go_wp2_with fail
                  go_roundg 0
                  case measure => omega
                  case rel => exact ⟨dk, S4, .inr ⟨rfl, W4⟩⟩
          · have h40z : ¬ (40 : Int) < (n : Int) := by omega
            go_wp2_with fail
            go_end0
            refine ⟨rfl, dk, ⟨stable_eq W3.out.size ?_ W3.out.cls, W3.out.size⟩, S3.out⟩
            rw [HN.out]
            exact W3.out.srt
end Go.Proofs.YtdnilnjlbobcmaaDoor.Kp
/- slices.Values(l) at items. -/

namespace Go.Proofs.YtdnilnjlbobcmaaDoor.Kp.ApT
open Go.RowKit Go.Shelf Go.Lib Go.Sort Go.Maps Go.Proofs.YtdnilnjlbobcmaaDoor.Ar Go.Proofs.YtdnilnjlbobcmaaDoor.Mx Go.Proofs.YtdnilnjlbobcmaaDoor.Kp
set_option linter.unusedVariables false
set_option linter.unusedSimpArgs false
theorem fr_of {w w' : World} (h : Below w.heap.size w w') : Fr [] w w' := ⟨h.os, h.tape, h.output, h.size, fun k hk _ => h.block k hk⟩
theorem values_any (av : Option Addr) (nv cv : Nat) (w : World) : Calls Tryd.prog 48 #[.slice av nv cv] w fun e w' => e = .returned (.func (.func 58) #[] #[.pointer (some ⟨w.heap.size, 0, none⟩)]) ∧ w' = w.alloc (.cells #[.slice av nv cv] 22) := by
  go_enter Tryd.func48, Tryd.ntmps48
  go_wp2_with fail
  go_ret
  exact ⟨rfl, rfl⟩
set_option maxRecDepth 100000 in
set_option maxHeartbeats 1600000 in
theorem feeds (n : Nat) (hn : 1 ≤ n) (Bm : Nat) (sv : Value) (xs : List It) (w : World) (hm : w.cell? ⟨Bm, 0, none⟩ = some sv) (h : Sq fT w sv xs) (hlen : xs.length ≤ 1000) :
    Feeds n Tryd.prog 58 #[.pointer (some ⟨Bm, 0, none⟩)] enc (fun ys => ys = xs) xs.length w := by
  intro l J W hW hJ hB hY h0
  have hm0 := (fr_of hW).cell hm (by simp)
  obtain ⟨av, cv, rfl, hcv, hmv, -⟩ := id h
  refine callsIn_of_wp Tryd.func58 rfl trivial ?_ rfl
  simp only [Tryd.ntmps58, List.size_toArray, List.length_cons, List.length_nil, Nat.reduceAdd, Nat.reduceSub, Array.replicate_succ, Array.replicate_zero, List.push_toArray, List.append_toArray, List.nil_append, List.cons_append]
  gi_wp2
  gi_loopw [7] (fun x wr => ∃ i : Nat, i ≤ xs.length ∧ x = .int .i64 (i : Nat) ∧ J (xs.take i) wr) (fun x _ => xs.length - (match x with | .int _ z => z.toNat | _ => 0))
  case atStart => exact ⟨0, by omega, rfl, by simpa using h0⟩
  case round =>
    obtain ⟨i, hi, rfl, hJi⟩ := hrel
    by_cases hlt : i < xs.length
    · obtain ⟨x, hx⟩ : ∃ x, xs[i]? = some x := ⟨xs[i], List.getElem?_eq_getElem hlt⟩
      have hS := h.up (fr_of (hB _ _ hJi))
      obtain ⟨gs, os, rfl, x0, x1, x2⟩ := it_cells hS hx
      have hJ2 : J (xs.take i) (wr.alloc (.cells #[.int .i64 x.k, .int .i64 x.v, .int .i64 x.d] 43)) := hJ _ wr _ none hJi (World.grownBy_alloc wr _ none) (fun r e => by cases e)
      obtain ⟨fn, tmps, assign, body, hy, hR⟩ := hY (xs.take i) x _ hJ2 (by rw [List.length_take]; omega)
      have hltz : (i : Int) < (xs.length : Int) := by omega
      have HT := Lib.hid (show xs.take (i + 1) = xs.take i ++ [x] by rw [List.take_add_one, hx]; rfl)
      have HI := Lib.hid hJi
      unfold enc at hy
      clear hJi hJ2 hS h
      gi_wp2
      refine hR.mono ?_
      rintro e W3 ⟨rfl, hJ3, hk3⟩
      gi_wp2
      go_roundw
      case rel => exact ⟨i + 1, by omega, by simp, by rw [HT.out]; exact hJ3⟩
      case measure => simp; omega
    · have hltz : ¬ (i : Int) < (xs.length : Int) := by omega
      have HI := Lib.hid hJi
      have hie : xs.length ≤ i := by omega
      clear hJi
      gi_wp2
      go_end0
      have := HI.out
      rw [List.take_of_length_le hie] at this
      exact ⟨⟨_, rfl⟩, this⟩
end Go.Proofs.YtdnilnjlbobcmaaDoor.Kp.ApT
/- slices.AppendSeq(nil, seq), slices.Collect(seq) at ints, whatever the iterator value. -/

namespace Go.Proofs.YtdnilnjlbobcmaaDoor.Kp.ApI
open Go.RowKit Go.Shelf Go.Lib Go.Sort Go.Maps Go.Proofs.YtdnilnjlbobcmaaDoor.Ar Go.Proofs.YtdnilnjlbobcmaaDoor.Mx Go.Proofs.YtdnilnjlbobcmaaDoor.Kp
set_option linter.unusedVariables false
set_option linter.unusedSimpArgs false
def enc (x : Int) : Value := .int .i64 x
def assign : Code := Code.region 2 #[{ dst := some 5, op := Op.assign (Operand.tmp 7), type := 3, pos := "iter.go:51", after := #[], guard := none }] false
def body : Code := Code.block 1 (Code.region 3 #[{ dst := some 8, op := Op.load 32 (Operand.tmp 2), type := 32, pos := "iter.go:52", after := #[], guard := none }, { dst := some 9, op := Op.move (Operand.tmp 5), type := 3, pos := "iter.go:52", after := #[], guard := none }, { dst := some 10, op := Op.buildSlice 32 1 #[(0, Operand.tmp 9)], type := 32, pos := "iter.go:52", after := #[{ on := 1, ground := Ground.data }], guard := none }, { dst := some 11, op := Op.call { callee := Callee.builtin Builtin.append, args := #[Operand.tmp 8, Operand.tmp 10], argTypes := #[32, 32] }, type := 32, pos := "iter.go:52", after := #[{ on := 0, ground := Ground.data }, { on := 2, ground := Ground.data }], guard := none }, { dst := none, op := Op.store 32 (Operand.tmp 2) (Operand.tmp 11), type := 0, pos := "iter.go:52", after := #[{ on := 3, ground := Ground.data }, { on := 3, ground := Ground.chain }, { on := 0, ground := Ground.phase }, { on := 1, ground := Ground.phase }, { on := 2, ground := Ground.phase }, { on := 3, ground := Ground.phase }], guard := none }] false)
/-- The loop's record. -/
def rec (fn : FuncId) (sv : Value) (Bs D : Nat) (st : LoopState) : Loop :=
  { state := st, pending := none, fn, tmps := #[.slice none 0 0, sv, .pointer (some ⟨Bs, 0, none⟩), undef, .slice none 0 0, undef, sv, undef, undef, undef, undef, undef, undef], params := #[7], assign := assign, body := body, defers := D }
/-- Between two rounds: what has come so far lies in a row of the call's own. -/
structure At (w0 : World) (fn : FuncId) (sv : Value) (Bs l D : Nat) (ss : List Int) (W : World) : Prop where
  box : ∃ v, W.heap[Bs]? = some (.cells #[v] 32 (0, 0)) ∧ W.ownsRow w0.heap.size 3 1 v ss.length (ss.flatMap fI)
  lp : W.heap[l]? = some (.loop (rec fn sv Bs D .ready))
  df : W.heap[D]? = some (.deferred (some []))
  below : Below w0.heap.size w0 W
theorem At.abides (w0 : World) (fn : FuncId) (sv : Value) (Bs l D B : Nat) (hB : w0.heap.size ≤ B) : AbidesFrom B (At w0 fn sv Bs l D) := fun s W W' row h hg hrow => by
  have hrow' : ∀ r, row = some r → ∃ o : Obj, W.heap[r]? = some o ∧ o.isWalk = true := fun r e => (hrow r e).2
  obtain ⟨v, hv, hr⟩ := h.box
  exact ⟨⟨v, (grownBy_keeps hg hrow' hv rfl).trans hv, ownsRow_abides_a hr hg hrow'⟩, (grownBy_keeps hg hrow' h.lp rfl).trans h.lp, (grownBy_keeps hg hrow' h.df rfl).trans h.df,
    h.below.grown hg h.below.size (fun k e => Nat.le_trans hB (hrow k e).1)⟩
theorem ne_es {W : World} {base : Nat} {v : Value} {k : Nat} {xs : List Value} {j : Nat} {u : Value} (h : W.ownsRow base 3 1 v k xs) (hj : W.heap[j]? = some (.cells #[u] 32 (0, 0))) : v.ownBlock = none ∨ v.ownBlock ≠ some j :=
  ownsRow_ne_a h hj (fun cur e => absurd (Obj.cells.inj e).2.1 (by decide))
theorem ne_lp {W : World} {base : Nat} {v : Value} {k : Nat} {xs : List Value} {j : Nat} {r : Loop} (h : W.ownsRow base 3 1 v k xs) (hj : W.heap[j]? = some (.loop r)) : v.ownBlock = none ∨ v.ownBlock ≠ some j :=
  ownsRow_ne_a h hj (fun cur e => by cases e)
theorem ne_df {W : World} {base : Nat} {v : Value} {k : Nat} {xs : List Value} {j : Nat} {r : Option (List Deferred)} (h : W.ownsRow base 3 1 v k xs) (hj : W.heap[j]? = some (.deferred r)) : v.ownBlock = none ∨ v.ownBlock ≠ some j :=
  ownsRow_ne_a h hj (fun cur e => by cases e)
theorem some_ne {v : Value} {j : Nat} (h : v.ownBlock = none ∨ v.ownBlock ≠ some j) : some j ≠ v.ownBlock := by
  rcases h with e | e
  · rw [e]; simp
  · exact fun e' => e e'.symm
set_option maxRecDepth 100000 in
set_option maxHeartbeats 3200000 in
theorem round (m : Nat) (w0 : World) (fn : FuncId) (sv : Value) (Bs l D : Nat) (hBl : Bs ≠ l) (hDl : D ≠ l) (hDB : D ≠ Bs) (h0B : w0.heap.size ≤ Bs) (h0l : w0.heap.size ≤ l) (ss : List Int) (x : Int) (W : World) (h : At w0 fn sv Bs l D ss W) (hlen : ss.length < 1000) :
    YieldAt Fence.wide m Tryd.prog l #[enc x] W fun e W' => e = .returned (.bool true) ∧ At w0 fn sv Bs l D (ss ++ [x]) W' ∧ KeepsWalks W W' := by
  obtain ⟨i0, hi, hz0, hz1, hz2⟩ := info_parts intI
  refine ⟨fn, #[.slice none 0 0, sv, .pointer (some ⟨Bs, 0, none⟩), undef, .slice none 0 0, undef, sv, enc x, undef, undef, undef, undef, undef], assign, body, by simpa [rec] using run_yield (P := Tryd.prog) (args := #[enc x]) h.lp rfl, roundIn_of_wpIn trivial ?_⟩
  have h1 : At w0 fn sv Bs l D ss W := h
  have hk1 : KeepsWalks W W := KeepsWalks.refl _
  obtain ⟨v, hv, hrow⟩ := h1.box
  have hl : l < W.heap.size := (Array.getElem?_eq_some_iff.1 h1.lp).1
  have hbr := run_beginRound (P := Tryd.prog) h1.lp rfl
  obtain ⟨W5, hW2⟩ : ∃ W2, W.putObj l (.loop { rec fn sv Bs D .ready with state := .busy }) = W2 := ⟨_, rfl⟩
  rw [hW2] at hbr
  have hg2 : W.grownBy W5 (some l) := by rw [← hW2]; exact grownBy_putObj_a _ _ _
  have hk5 : KeepsWalks W W5 := hk1.trans (by rw [← hW2]; exact KeepsWalks.putObj _ h1.lp rfl)
  have hv5 : W5.heap[Bs]? = some (.cells #[v] 32 (0, 0)) := by rw [← hW2]; exact (World.putObj_heap_other hBl).trans hv
  have hK5 : W5.heap[D]? = some (.deferred (some [])) := by rw [← hW2]; exact (World.putObj_heap_other hDl).trans h1.df
  have hL5 : W5.heap[l]? = some (.loop { rec fn sv Bs D .ready with state := .busy }) := by rw [← hW2]; exact World.putObj_heap_same hl
  have hrow5 := hrow.kept hg2 (ne_lp hrow h1.lp)
  have hb5 : Below w0.heap.size w0 W5 := h1.below.grown hg2 h1.below.size (fun k e => by cases e; exact h0l)
  clear hW2
  obtain ⟨hc2, hf2⟩ := cell_of_box_a hv5
  have hBlt : Bs < W5.heap.size := (Array.getElem?_eq_some_iff.1 hv5).1
  have hl5 : l < W5.heap.size := (Array.getElem?_eq_some_iff.1 hL5).1
  have hDlt : D < W5.heap.size := (Array.getElem?_eq_some_iff.1 hK5).1
  unfold assign enc
  gi_wp2_with gi_round_op_a
  unfold body
  gi_wp2_with (first
    | (gi_at_builtin; refine wpListIn_append_own _ rfl _ _ 32 rfl w0.heap.size 3 i0 _ 1 8 Tryd.underlying32 hi hz0 hz1 hz2 rfl (by decide) _ _ _ rfl (hrow5.alloc _) ⟨W5.heap.size, 0, none⟩ 1 1 [.int .i64 x] rfl rfl (cells_new _ _ _) (by simp [Value.oneCell']) (by unfold maxLen; omega) (by omega) (by have := hb5.size; simp; omega) ?_; intro v' w3 hown' hg3 hnil3
       have hv3 : w3.heap[Bs]? = some (.cells #[v] 32 (0, 0)) := (hg3.block Bs (by simp; omega) (some_ne (ne_es hrow5 hv5))).trans ((Below.heap_alloc _ _ Bs hBlt).trans hv5)
       obtain ⟨hc3, hf3⟩ := cell_of_box_a hv3
       obtain ⟨g', cap', cur', rfl, hbase', hgb', hr1, hr2, hr3, hr4⟩ : ∃ g' cap' cur', v' = .slice (some ⟨g', 0, none⟩) (ss.length + 1) cap' ∧ w0.heap.size ≤ g' ∧ w3.heap[g']? = some (.cells cur' 3 (0, 0)) ∧ ss.length + 1 ≤ cap' ∧ cap' ≤ maxLen ∧ cur'.size = cap' * 1 ∧ cur'.toList.take ((ss.length + 1) * 1) = ss.flatMap fI ++ [.int .i64 x] := by
         rcases hown'.2 with ⟨_, h0⟩ | h'
         · exact absurd h0 (by omega)
         · exact h'
       go_frame)
    | gi_round_op_a)
  have hg3' : (W5.alloc (.cells #[.int .i64 x] 3)).grownBy w3 v.ownBlock := hg3
  have hL3 : w3.heap[l]? = some (.loop { rec fn sv Bs D .ready with state := .busy }) := (hg3'.block l (by simp; omega) (some_ne (ne_lp hrow5 hL5))).trans ((Below.heap_alloc _ _ l hl5).trans hL5)
  have hK3 : w3.heap[D]? = some (.deferred (some [])) := (hg3'.block D (by simp; omega) (some_ne (ne_df hrow5 hK5))).trans ((Below.heap_alloc _ _ D hDlt).trans hK5)
  obtain ⟨w4, hw4⟩ : ∃ w4, w3.setCell ⟨Bs, 0, none⟩ (.slice (some ⟨g', 0, none⟩) (ss.length + 1) cap') = w4 := ⟨_, rfl⟩
  rw [hw4]
  have hg4 : w3.grownBy w4 (some Bs) := by rw [← hw4]; exact grownBy_setCell0_a _ _ _
  have hv4 : w4.heap[Bs]? = some (.cells #[.slice (some ⟨g', 0, none⟩) (ss.length + 1) cap'] 32 (0, 0)) := by rw [← hw4]; exact heap_setCell_box_a _ hv3
  have hL4 : w4.heap[l]? = some (.loop { rec fn sv Bs D .ready with state := .busy }) := (hg4.block l (Array.getElem?_eq_some_iff.1 hL3).1 (fun e => hBl (by cases e; rfl))).trans hL3
  have hK4 : w4.heap[D]? = some (.deferred (some [])) := (hg4.block D (Array.getElem?_eq_some_iff.1 hK3).1 (fun e => hDB (by cases e; rfl))).trans hK3
  have hrow4 := hown'.kept hg4 (ne_es hown' hv3)
  have hl4 : l < w4.heap.size := (Array.getElem?_eq_some_iff.1 hL4).1
  have hb3 : Below w0.heap.size w0 w3 := (hb5.alloc hb5.size _).grown hg3' (by have := hb5.size; simp; omega) (fun k e => (hrow5.lt k e).1)
  have hb4 : Below w0.heap.size w0 w4 := hb3.grown hg4 hb3.size (fun k e => by cases e; exact h0B)
  have hk4 : KeepsWalks W w4 := ((hk5.trans (KeepsWalks.alloc _ _)).trans (KeepsWalks.of_grownBy hg3' (ownsRow_not_walk_a (hrow5.alloc _)))).trans (by rw [← hw4]; exact KeepsWalks.setCell _ _ _)
  clear hw4
  have hrow6 := hrow4.kept (grownBy_putObj_a w4 l (.loop { { rec fn sv Bs D .ready with state := .busy } with state := .ready, pending := none })) (ne_lp hrow4 hL4)
  refine ⟨_, _, run_endRound none hL4, rfl, ⟨⟨_, (World.putObj_heap_other hBl).trans hv4, ?_⟩, World.putObj_heap_same hl4, (World.putObj_heap_other hDl).trans hK4, hb4.grown (grownBy_putObj_a _ _ _) hb4.size (fun k e => by cases e; exact h0l)⟩, hk4.trans (KeepsWalks.putObj _ hL4 rfl)⟩
  rw [List.length_append, List.flatMap_append]
  simpa [fI] using hrow6
set_option maxRecDepth 100000 in
set_option maxHeartbeats 2000000 in
/-- slices.AppendSeq(nil, seq): a row of the call's own that holds what has come, in that order. -/
theorem appendSeq (n : Nat) (hn : 2 ≤ n) (g : Nat) (lb : Array Value) (eg : ∀ args w, (callFunc g args).run Tryd.prog w = .ok (.enter g args) w) (S : List Int → Prop) (N : Nat) (hN : N ≤ 1000) (w : World) (hseq : Feeds (n - 1) Tryd.prog g lb enc S N w) :
    CallsIn Fence.wide n Tryd.prog 61 #[.slice none 0 0, .func (.func g) #[] lb] w fun e w' => ∃ (v : Value) (ss : List Int), e = .returned v ∧ S ss ∧ w'.ownsRow w.heap.size 3 1 v ss.length (ss.flatMap fI) ∧ Below w.heap.size w w' := by
  have h1 : 1 ≤ n := by omega
  have hro : Fence.wide.round = none := rfl
  refine callsIn_of_wp_marks Tryd.func61 rfl trivial ?_ hro
  simp only [Tryd.ntmps61, List.size_toArray, List.length_cons, List.length_nil, Nat.reduceAdd, Nat.reduceSub, Array.replicate_succ, Array.replicate_zero, List.push_toArray, List.append_toArray, List.nil_append, List.cons_append]
  gi_wp2
  refine wpIn_rangeFunc ?_
  intro fn hfn
  rw [hro]
  obtain ⟨W0, hW0⟩ : ∃ W0, w.alloc (.cells #[.slice none 0 0] 32) = W0 := ⟨_, rfl⟩
  have hs0 : W0.heap.size = w.heap.size + 1 := by rw [← hW0]; simp
  have hv0 : W0.heap[w.heap.size]? = some (.cells #[.slice none 0 0] 32 (0, 0)) := by rw [← hW0]; exact World.alloc_heap_new w _
  have hb0 : Below w.heap.size w W0 := by rw [← hW0]; exact (Below.refl _ w).alloc (Nat.le_refl _) _
  rw [hW0]
  obtain ⟨W1, hW1⟩ : ∃ W1, (W0.alloc (.deferred (some []))).alloc (.loop (rec fn (.func (.func g) #[] lb) w.heap.size W0.heap.size .ready)) = W1 := ⟨_, rfl⟩
  have hold : ∀ k, k < W0.heap.size → W1.heap[k]? = W0.heap[k]? := fun k hk => by
    rw [← hW1]; exact (Below.heap_alloc _ _ k (by simp; omega)).trans (Below.heap_alloc _ _ k hk)
  have hb1 : Below w.heap.size w W1 := by rw [← hW1]; exact (hb0.alloc hb0.size _).alloc (by have := hb0.size; simp; omega) _
  have hs1 : W1.heap.size = W0.heap.size + 2 := by rw [← hW1]; simp
  have hM : At w fn (.func (.func g) #[] lb) w.heap.size (W0.heap.size + 1) W0.heap.size [] W1 :=
    ⟨⟨_, (hold w.heap.size (by omega)).trans hv0, ⟨rfl, .inl ⟨rfl, rfl⟩⟩⟩,
     by rw [← hW1]; have := World.alloc_heap_new (W0.alloc (.deferred (some []))) (.loop (rec fn (.func (.func g) #[] lb) w.heap.size W0.heap.size .ready)); rwa [World.size_alloc] at this,
     by rw [← hW1]; exact (Below.heap_alloc _ _ _ (by simp)).trans (World.alloc_heap_new W0 _), hb1⟩
  refine ⟨W0.heap.size + 1, [{ target := .collected W0.heap.size, args := #[] }], W1, { target := .fn (.func g) lb, args := #[.func (.yield (W0.heap.size + 1)) #[] #[]] }, W1, g,
    #[.func (.yield (W0.heap.size + 1)) #[] #[]] ++ lb, W1, ?_, ?_, ?_, ?_, fun _ => h1, ?_⟩
  · rw [← hW1]; exact run_enterLoop_outer _ _ _ _ _
  · simp [resolve, go_sem]
  · intro f' hf'; trivial
  · simp [invoke, go_sem, eg]
  · refine (hseq (W0.heap.size + 1) (At w fn (.func (.func g) #[] lb) w.heap.size (W0.heap.size + 1) W0.heap.size) W1 hb1 (At.abides _ _ _ _ _ _ _ hb1.size) (fun xs W h => h.below)
      (fun pre x W hJ hl => round (n - 1 - 1) w fn _ w.heap.size (W0.heap.size + 1) W0.heap.size (by omega) (by omega) (by omega) (Nat.le_refl _) (by omega) pre x W hJ (by omega)) hM).mono ?_
    rintro e W2 ⟨⟨v0, rfl⟩, ss, hS, h2⟩
    obtain ⟨v, hv, hrow⟩ := h2.box
    have hend := run_endLoop (P := Tryd.prog) h2.lp (by simp [rec])
    obtain ⟨W3, hW3⟩ : ∃ W3, W2.putObj (W0.heap.size + 1) (.loop { rec fn (.func (.func g) #[] lb) w.heap.size W0.heap.size .ready with state := .exhausted }) = W3 := ⟨_, rfl⟩
    rw [hW3] at hend
    have hg3 : W2.grownBy W3 (some (W0.heap.size + 1)) := by rw [← hW3]; exact grownBy_putObj_a _ _ _
    have hv3 : W3.heap[w.heap.size]? = some (.cells #[v] 32 (0, 0)) := by rw [← hW3]; exact (World.putObj_heap_other (by omega)).trans hv
    have hK3 : W3.heap[W0.heap.size]? = some (.deferred (some [])) := by rw [← hW3]; exact (World.putObj_heap_other (by omega)).trans h2.df
    have hrow3 := hrow.kept hg3 (ne_lp hrow h2.lp)
    have hb3 : Below w.heap.size w W3 := h2.below.grown hg3 h2.below.size (fun k e => by cases e; omega)
    obtain ⟨hc3, hf3⟩ := cell_of_box_a hv3
    clear hW3
    refine ⟨none, W3, hend, ?_⟩
    gi_wp2
    rw [← hs0]
    refine ⟨by simp, .inl ⟨_, _, rfl, run_takeDeferred hK3, ?_⟩⟩
    exact ⟨_, results_tmp rfl _ _ _, v, ss, rfl, hS, hrow3.kept (grownBy_putObj_a _ _ _) (ne_df hrow3 hK3), hb3.grown (grownBy_putObj_a _ _ _) hb3.size (fun k e => by cases e; omega)⟩
set_option maxHeartbeats 1000000 in
/-- slices.Collect(seq). -/
theorem collect (n : Nat) (hn : 3 ≤ n) (g : Nat) (lb : Array Value) (eg : ∀ args w, (callFunc g args).run Tryd.prog w = .ok (.enter g args) w) (S : List Int → Prop) (N : Nat) (hN : N ≤ 1000) (w : World) (hseq : Feeds (n - 1 - 1) Tryd.prog g lb enc S N w) :
    CallsIn Fence.wide n Tryd.prog 50 #[.func (.func g) #[] lb] w fun e w' => ∃ (v : Value) (ss : List Int), e = .returned v ∧ S ss ∧ w'.ownsRow w.heap.size 3 1 v ss.length (ss.flatMap fI) ∧ Below w.heap.size w w' := by
  have h1 : 1 ≤ n := by omega
  have eA : ∀ args w, (callFunc 61 args).run Tryd.prog w = .ok (.enter 61 args) w := enters_of Tryd.func61 (by kernel_rfl) rfl
  have hF : Fence.wide.fn 61 := trivial
  refine callsIn_of_wp Tryd.func50 rfl trivial ?_ rfl
  simp only [Tryd.ntmps50, List.size_toArray, List.length_cons, List.length_nil, Nat.reduceAdd, Nat.reduceSub, Array.replicate_succ, Array.replicate_zero, List.push_toArray, List.append_toArray, List.nil_append, List.cons_append]
  gi_wp2_with (gi_at_fn 61; refine (appendSeq (n - 1) (by omega) g lb eg S N hN _ hseq).mono ?_; rintro e w' ⟨v, ss, rfl, hS, hrow, hb⟩)
  go_ret
  exact ⟨v, ss, rfl, hS, hrow, hb⟩
end Go.Proofs.YtdnilnjlbobcmaaDoor.Kp.ApI
/- slices.Values(l) at ints. -/

namespace Go.Proofs.YtdnilnjlbobcmaaDoor.Kp.ApI
open Go.RowKit Go.Shelf Go.Lib Go.Sort Go.Maps Go.Proofs.YtdnilnjlbobcmaaDoor.Ar Go.Proofs.YtdnilnjlbobcmaaDoor.Mx Go.Proofs.YtdnilnjlbobcmaaDoor.Kp
set_option linter.unusedVariables false
set_option linter.unusedSimpArgs false
theorem fr_of {w w' : World} (h : Below w.heap.size w w') : Fr [] w w' := ⟨h.os, h.tape, h.output, h.size, fun k hk _ => h.block k hk⟩
end Go.Proofs.YtdnilnjlbobcmaaDoor.Kp.ApI
/- Package keep's Sort; slices.Sorted(slices.Values(l)) at ints. -/

namespace Go.Proofs.YtdnilnjlbobcmaaDoor.Kp
open Go.RowKit Go.Shelf Go.Lib Go.Sort Go.Maps Go.Proofs.YtdnilnjlbobcmaaDoor.Ar Go.Proofs.YtdnilnjlbobcmaaDoor.Mx
set_option linter.unusedVariables false
set_option linter.unusedSimpArgs false
/-- A list's cells, flat. -/
theorem get_flat (xs : List It) : ∀ (i c : Nat) (x : It), xs[i]? = some x → c < 3 → (xs.flatMap fT)[i * 3 + c]? = (fT x)[c]? := fun i c x hx hc => fT_lays.at hx hc
theorem holds_row {w : World} {b : Nat} {cur : Array Value} {T : TypeId} {xs : List It} (hb : w.heap[b]? = some (.cells cur T (0, 0))) (ht : cur.toList.take (xs.length * 3) = xs.flatMap fT) : HoldsK fT 3 w b 0 xs.toArray := by
  intro t ht2
  simp only [size_flatK, List.size_toArray] at ht2
  have hlen := fT_lays.flat xs
  obtain ⟨x, hx⟩ : ∃ x, xs[t / 3]? = some x := ⟨xs[t / 3]'(by omega), List.getElem?_eq_getElem _⟩
  have h1 := get_flat xs (t / 3) (t % 3) x hx (Nat.mod_lt _ (by omega))
  rw [show t / 3 * 3 + t % 3 = t by omega] at h1
  have h2 : cur.toList[t]? = (fT x)[t % 3]? := by
    rw [← h1, ← ht, List.getElem?_take, if_pos ht2]
  have h3 : (flatK fT 3 xs.toArray)[t]! = (fT x)[t % 3]! := by
    rw [get_flatK _ _ _ _ (by simpa using ht2)]
    congr 1
    simp [hx]
  have h4 : (fT x)[t % 3]? = some ((fT x)[t % 3]!) := by
    have : t % 3 < (fT x).length := by show _ < 3; omega
    simp [this]
  rw [h3]
  simp only [Nat.zero_add, id]
  constructor
  · unfold World.cell?
    rw [hb]
    have := h2.trans h4
    simp at this ⊢
    exact this
  · unfold World.frozen?
    rw [hb]
    simp
theorem flat_flatK (d : Array It) : (flatK fT 3 d).toList = d.toList.flatMap fT := by
  have hlen := fT_lays.flat d.toList
  apply List.ext_getElem?
  intro t
  by_cases ht : t < d.size * 3
  · obtain ⟨x, hx⟩ : ∃ x, d.toList[t / 3]? = some x := ⟨d.toList[t / 3]'(by simp; omega), List.getElem?_eq_getElem _⟩
    have h1 := get_flat d.toList (t / 3) (t % 3) x hx (Nat.mod_lt _ (by omega))
    rw [show t / 3 * 3 + t % 3 = t by omega] at h1
    rw [h1, Array.getElem?_toList]
    have h3 : (flatK fT 3 d)[t]! = (fT x)[t % 3]! := by
      rw [get_flatK _ _ _ _ ht]
      rw [Array.getElem?_toList] at hx
      have hx2 : d[t / 3]! = x := by rw [getElem!_def, hx]
      rw [hx2]
    have h4 : (fT x)[t % 3]? = some ((fT x)[t % 3]!) := by
      have : t % 3 < (fT x).length := by show _ < 3; omega
      simp [this]
    rw [h4, ← h3]
    have hz : t < (flatK fT 3 d).size := by simpa using ht
    rw [getElem!_pos _ t hz]
    exact Array.getElem?_eq_getElem hz
  · rw [List.getElem?_eq_none (by simp; omega), List.getElem?_eq_none (by rw [hlen]; simp; omega)]
theorem own_swk {w0 w' : World} {base b cap : Nat} {cur : Array Value} {E : TypeId} {n : Nat} {d' : Array It} (hbase : base ≤ b) (hb : w0.heap[b]? = some (.cells cur E (0, 0))) (h1 : n ≤ cap) (h2 : cap ≤ maxLen) (h3 : cur.size = cap * 3) (S : SWK fT 3 w0 b 0 d' w') (hs : d'.size = n) :
    w'.ownsRow base E 3 (.slice (some ⟨b, 0, none⟩) n cap) n (d'.toList.flatMap fT) ∧ Fr [b] w0 w' := by
  obtain ⟨m, os, rfl⟩ := S
  have hg : b < w0.heap.size := (Array.getElem?_eq_some_iff.1 hb).1
  refine ⟨⟨by rw [fT_lays.flat]; simp [hs], .inr ⟨b, cap, putCells id 0 (flatK fT 3 d') cur, rfl, hbase, ?_, h1, h2, by simp [putCells, h3], ?_⟩⟩, ?_⟩
  · unfold sortWorldK putRowK
    rw [heap_grow_old _ _ (by simpa using hg)]
    simp [putRow, mapBlock, Sort.ahead, Array.getElem?_modify, hb, onCells]
  · rw [← flat_flatK]
    have hz : (flatK fT 3 d').size = n * 3 := by simp [hs]
    generalize flatK fT 3 d' = F at *
    have hcap : n * 3 ≤ cur.size := by omega
    apply List.ext_getElem?
    intro j
    by_cases hj : j < n * 3
    · rw [List.getElem?_take_of_lt hj, Array.getElem?_toList, Array.getElem?_toList]
      simp [putCells, hz, hj, show j < cur.size by omega]
    · rw [List.getElem?_take_eq_none (by omega), List.getElem?_eq_none (by simp [hz]; omega)]
  · unfold sortWorldK putRowK
    refine ⟨rfl, rfl, rfl, by simp, fun k hk hne => ?_⟩
    rw [heap_grow_old _ _ (by simpa using hk)]
    have : b ≠ k := fun e => hne (by rw [e]; simp)
    simp [putRow, mapBlock, Sort.ahead, Array.getElem?_modify, this]
theorem rowK_of {w : World} {b : Nat} {cur : Array Value} {T : TypeId} {xs : List It} (hb : w.heap[b]? = some (.cells cur T (0, 0))) (ht : cur.toList.take (xs.length * 3) = xs.flatMap fT) : RowK fT 3 w b 0 xs.toArray :=
  ⟨fun _ => rfl, fun x u hu => fT_lays.one x u hu, holds_row hb ht, (Array.getElem?_eq_some_iff.1 hb).1⟩
theorem ins_nil (w : World) (c : Value) : Calls Tryd.prog 80 #[.slice none 0 0, .int .i64 0, .int .i64 0, c] w fun e w' => e = .returned (.tuple #[]) ∧ w' = w := by
  go_enter Tryd.func80, Tryd.ntmps80
  go_wp2_with fail
  go_loopw [8] (fun x wr => x = .int .i64 1 ∧ wr = w) (fun _ _ => 0)
  case atStart => exact ⟨rfl, rfl⟩
  case round =>
    obtain ⟨rfl, rfl⟩ := hrel
    go_wp2_with fail
    go_end0
    exact ⟨rfl, rfl⟩
set_option maxRecDepth 100000 in
set_option maxHeartbeats 1600000 in
theorem stable_nil (w : World) (c : Value) : Calls Tryd.prog 66 #[.slice none 0 0, .int .i64 0, c] w fun e w' => e = .returned (.tuple #[]) ∧ w' = w := by
  go_enter Tryd.func66, Tryd.ntmps66
  go_wp2_with fail
  go_loopw [7, 8] (fun x y wr => x = .int .i64 0 ∧ y = .int .i64 20 ∧ wr = w) (fun _ _ _ => 0)
  case atStart => exact ⟨rfl, rfl, rfl⟩
  case round =>
    obtain ⟨rfl, rfl, rfl⟩ := hrel
    go_wp2_with (go_at_call 80; refine (ins_nil _ _).mono ?_; rintro e w' ⟨rfl, rfl⟩)
    go_loopw [6] (fun x wr2 => x = .int .i64 20 ∧ wr2 = w') (fun _ _ => 0)
    case atStart => exact ⟨rfl, rfl⟩
    case round =>
      obtain ⟨rfl, rfl⟩ := hrel
      go_wp2_with fail
      go_end0
      exact ⟨rfl, rfl⟩
theorem ssf_any (u : Value) (xs : List It) (w : World) (B : Nat) (h : w.ownsRow B 43 3 u xs.length (xs.flatMap fT)) (hl : xs.length ≤ 40) :
    Calls Tryd.prog 57 #[u, .func (.func 49) #[] #[]] w fun e w' =>
      e = .returned (.tuple #[]) ∧ w'.ownsRow B 43 3 u (sortT xs).length ((sortT xs).flatMap fT) ∧ Fr u.ownBlock.toList w w' := by
  rcases h.2 with ⟨rfl, h0⟩ | ⟨g, cap, cur, rfl, hbase, hb, h1, h2, h3, h4⟩
  · obtain rfl := List.eq_nil_of_length_eq_zero h0
    go_enter Tryd.func57, Tryd.ntmps57
    go_wp2_with (go_at_call 66; refine (stable_nil _ _).mono ?_; rintro e w' ⟨rfl, rfl⟩)
    go_end0
    exact ⟨rfl, h, Fr.refl _ _⟩
  · have R := rowK_of hb h4
    have H := stable_any g 0 cap xs.length xs.toArray xs.toArray w w R rfl (SWK.start R.hH) (by simp) hl
    have HB := Lib.hid (And.intro hbase (And.intro hb (And.intro h1 (And.intro h2 h3))))
    clear h h1 h2 h3 h4 R hb hbase
    go_enter Tryd.func57, Tryd.ntmps57
    go_wp2_with (go_at_call 66; refine H.mono ?_; rintro e w' ⟨rfl, d', ⟨hd, hs⟩, S⟩)
    go_end0
    obtain ⟨hbase, hb, h1, h2, h3⟩ := HB.out
    obtain ⟨o1, o2⟩ := own_swk hbase hb h1 h2 h3 S (by simpa using hs)
    rw [hd] at o1
    rw [sortT_length]
    exact ⟨rfl, o1, o2.mono (by simp [Value.ownBlock])⟩
theorem fr_own {S : List Nat} {a b c : World} (h : Fr [] a b) (k : Fr S b c) (hs : ∀ i, i ∈ S → a.heap.size ≤ i) : Fr [] a c := h.own k hs
theorem own_lt {w : World} {B sz n : Nat} {E : TypeId} {v : Value} {cs : List Value} (h : w.ownsRow B E sz v n cs) : ∀ i, i ∈ v.ownBlock.toList → B ≤ i := by
  intro i hi
  rcases h.2 with ⟨rfl, _⟩ | ⟨g, cap, cur, rfl, hb, _⟩
  · simp [Value.ownBlock] at hi
  · simp [Value.ownBlock] at hi; omega
set_option maxHeartbeats 1600000 in
/-- slices.SortedStableFunc(seq, compare). -/
theorem sstable_any (g : Nat) (lb : Array Value) (eg : ∀ args w, (callFunc g args).run Tryd.prog w = .ok (.enter g args) w) (S : List It → Prop) (N : Nat) (hN : N ≤ 1000) (w : World) (hseq : Feeds 3 Tryd.prog g lb ApT.enc S N w) (hS : ∀ ss, S ss → ss.length ≤ 40) :
    Calls Tryd.prog 47 #[.func (.func g) #[] lb, .func (.func 49) #[] #[]] w fun e w' => ∃ u ss, e = .returned u ∧ S ss ∧ w'.ownsRow w.heap.size 43 3 u (sortT ss).length ((sortT ss).flatMap fT) ∧ Fr [] w w' := by
  have H := callsIn_wide.1 (ApT.collect 5 (by omega) g lb eg S N hN w hseq)
  clear hseq
  go_enter Tryd.func47, Tryd.ntmps47
  go_wp2_with fail
  refine H.mono ?_
  rintro e w1 ⟨u, ss, rfl, hs, hrow, hb⟩
  have H2 := ssf_any u ss w1 w.heap.size hrow (hS ss hs)
  have F1 := ApT.fr_of hb
  have HO := Lib.hid (own_lt hrow)
  clear H hrow hb
  go_wp2_with fail
  refine H2.mono ?_
  rintro e w2 ⟨rfl, hrow2, F2⟩
  have F3 := F1.own F2 HO.out
  clear H2
  go_wp2_with fail
  go_ret
  exact ⟨u, ss, rfl, hs, hrow2, F3⟩
set_option maxHeartbeats 1600000 in
/-- Package keep's Sort. -/
theorem sort8_any (l : List It) (v : Value) (w : World) (hl : l.length ≤ 40) (h : Sq fT w v l) :
    Calls Tryd.prog 38 #[v] w fun e w' => (∃ u, e = .returned u ∧ w'.ownsRow w.heap.size 43 3 u (sortT l).length ((sortT l).flatMap fT)) ∧ Fr [] w w' := by
  obtain ⟨av, cv, rfl, hcv, hmv, -⟩ := id h
  have F0 := (Fr.refl [] w).alloc (.cells #[.slice av l.length cv] 22)
  have hm := (cell_of_box_a (Go.heap_alloc_new w (.cells #[.slice av l.length cv] 22))).1
  have hf := ApT.feeds 3 (by omega) w.heap.size _ l _ hm (h.up F0) (by omega)
  have H := sstable_any _ _ (enters_of Tryd.func58 (by kernel_rfl) rfl) _ _ (by omega) _ hf (fun ss e => by rw [e]; exact hl)
  clear hf hm h
  go_enter Tryd.func38, Tryd.ntmps38
  go_wp2_with fail
  refine (ApT.values_any av l.length cv w).mono ?_
  rintro e _ ⟨rfl, rfl⟩
  go_wp2_with fail
  refine H.mono ?_
  rintro e w2 ⟨u, ss, rfl, hs, hrow, F⟩
  subst hs
  clear H
  have hrow2 : w2.ownsRow w.heap.size 43 3 u (sortT ss).length ((sortT ss).flatMap fT) := by
    refine ⟨hrow.1, hrow.2.imp id ?_⟩
    rintro ⟨g, cap, cur, e1, e2, e3⟩
    exact ⟨g, cap, cur, e1, by simp at e2; omega, e3⟩
  clear hrow
  go_wp2_with fail
  go_ret
  exact ⟨⟨u, rfl, hrow2⟩, F0.trans F⟩
end Go.Proofs.YtdnilnjlbobcmaaDoor.Kp
/- The reference's Keys (layer 8). -/

namespace Go.Proofs.YtdnilnjlbobcmaaDoor.Kp
open Go.RowKit Go.Proofs.YtdnilnjlbobcmaaDoor.Ar Go.Proofs.YtdnilnjlbobcmaaDoor.Mx
set_option linter.unusedVariables false
set_option linter.unusedSimpArgs false
theorem key1_new {out : List Int} {x : It} (h : out.getLast? ≠ some x.k) : key1 out x = out ++ [x.k] := by unfold key1; rw [if_neg h]
theorem key1_old {out : List Int} {x : It} (h : out.getLast? = some x.k) : key1 out x = out := by unfold key1; rw [if_pos h]
theorem keysS_step {s : List It} {i : Nat} {x : It} (hx : s[i]? = some x) : keysS (s.take (i + 1)) = key1 (keysS (s.take i)) x := by
  unfold keysS; rw [List.take_add_one, hx, List.foldl_append]; rfl
theorem key1_len (out : List Int) (x : It) : (key1 out x).length ≤ out.length + 1 := by unfold key1; split <;> simp
def RKyAt (w : World) (s : List It) (u x : Value) (wr : World) : Prop :=
  ∃ i : Nat, i ≤ s.length ∧ x = .int .i64 (i : Nat) ∧ (keysS (s.take i)).length ≤ i ∧ wr.ownsRow w.heap.size 3 1 u (keysS (s.take i)).length ((keysS (s.take i)).flatMap fI) ∧ Fr [] w wr
end Go.Proofs.YtdnilnjlbobcmaaDoor.Kp
/- Package keep's Keys. -/

namespace Go.Proofs.YtdnilnjlbobcmaaDoor.Kp
open Go.RowKit Go.Maps Go.Sort Go.Shelf Go.Proofs.YtdnilnjlbobcmaaDoor.Ar Go.Proofs.YtdnilnjlbobcmaaDoor.Mx
set_option linter.unusedVariables false
set_option linter.unusedSimpArgs false
theorem fr_below {w w' : World} (h : Below w.heap.size w w') : Fr [] w w' := ⟨h.os, h.tape, h.output, h.size, fun k hk _ => h.block k hk⟩
theorem keys_of (b : Nat) (w : World) : Calls Tryd.prog 40 #[.map (some b)] w fun e w' => e = .returned (.func (.func 52) #[] #[.pointer (some ⟨w.heap.size, 0, none⟩)]) ∧ w' = w.alloc (.cells #[.map (some b)] 69) :=
  callsIn_wide.1 (AnyZI.keys_in Tryd.keysA Fence.wide 5 trivial rfl (some b) w)
theorem sortsA (m : Nat) : AnyZI.SortsIn Tryd.prog Tryd.sortedA_ren Fence.wide m :=
  ⟨fun blk off cap ss W hH hblk hsz => callsIn_wide.2 (AnyM.slices_Sort_int Tryd.sortA blk off cap ss W hH hblk hsz),
   fun p cap W => callsIn_wide.2 (AnyM.slices_Sort_int_none Tryd.sortA p cap W)⟩
theorem flat_fI (l : List Int) : l.map encZ = l.flatMap fI := by
  induction l with
  | nil => rfl
  | cons x r ih => rw [List.map_cons, ih]; rfl
set_option maxHeartbeats 1000000 in
theorem sorted_of (b nn : Nat) (g : Int → Option Value) (ks : List Int) (w : World) (h : GMap w b nn g) (hn : nn ≤ 1000000) (hk : ks.Pairwise (· < ·)) (hm : ∀ k, k ∈ ks ↔ (g k).isSome = true) :
    Calls Tryd.prog 39 #[.func (.func 52) #[] #[.pointer (some ⟨w.heap.size, 0, none⟩)]] (w.alloc (.cells #[.map (some b)] 69)) fun e w' =>
      (∃ v, e = .returned v ∧ w'.ownsRow (w.alloc (.cells #[.map (some b)] 69)).heap.size 3 1 v ks.length (ks.flatMap fI)) ∧ Fr [] (w.alloc (.cells #[.map (some b)] 69)) w' := by
  obtain ⟨D, hown, hD⟩ := h
  have hsz := hown.size_le
  have hbl := hown.lt
  have hseq : SeqGives Fence.wide 2 Tryd.prog 52 #[.pointer (some ⟨w.heap.size, 0, none⟩)] encZ (fun ss => ss.Perm (intKeys D)) (Maps.size D) (w.alloc (.cells #[.map (some b)] 69)) :=
    AnyZI.keys_gives (ρ := Tryd.keysA_ren) { Tryd.keysA with } Fence.wide _ trivial rfl (by omega) w.heap.size b nn D _ (by simp) (by simp) (by
      obtain ⟨es, clock, hb, Ft, hs, hD⟩ := hown
      exact ⟨es, clock, (Below.heap_alloc _ _ b hbl).trans hb, Ft, hs, hD⟩)
  have cS := AnyZI.sorted_in Tryd.sortedA Fence.wide 5 trivial trivial trivial trivial rfl (by omega) (sortsA _) (enters_of Tryd.func51 (by kernel_rfl) rfl) 52 #[.pointer (some ⟨w.heap.size, 0, none⟩)] trivial (enters_of Tryd.func52 (by kernel_rfl) rfl) _ _ (by unfold maxLen; omega) (by omega) _ hseq
  have hp : ks.Perm (intKeys D) := CollectedI.perm (left := fun _ => false) ⟨hk.imp (fun h e => by omega), fun x => by rw [hm, (hD.2 x).1]; simp⟩ hown intKeyV Tryd.underlying3 (fun _ => rfl)
  refine (callsIn_wide.1 cS).mono ?_
  rintro e w' ⟨v, ss, rfl, hS, hrow, -, hb⟩
  have e1 : ss.mergeSort (fun x y => decide (x ≤ y)) = ks := (mergeSort_of_perm_i (hS.trans hp.symm)).trans (by
    apply List.mergeSort_of_pairwise
    exact hk.imp (fun h => by simp; omega))
  have e2 : ss.length = ks.length := (hS.trans hp.symm).length_eq
  rw [e1, e2, flat_fI] at hrow
  exact ⟨⟨v, rfl, hrow⟩, fr_below hb⟩
/-- The keys of items, as a map. -/
def memK (l : List It) (k : Int) : Option Value := if l.any (fun x => x.k == k) = true then some (.agg #[]) else none
theorem memK_step {l : List It} {i : Nat} {x : It} (hx : l[i]? = some x) : (fun y => if y = x.k then some (Value.agg #[]) else memK (l.take i) y) = memK (l.take (i + 1)) := by
  funext y
  unfold memK
  rw [List.take_add_one, hx, List.any_append]
  by_cases h : y = x.k
  · subst h; simp
  · have h2 : (x.k == y) = false := by simp; exact fun e => h e.symm
    rw [if_neg h]; simp [h2]
def KysAt (w : World) (bm : Nat) (l : List It) (x : Value) (wr : World) : Prop := ∃ i : Nat, i ≤ l.length ∧ x = .int .i64 (i : Nat) ∧ GMap wr bm i (memK (l.take i)) ∧ Fr [] w wr
set_option maxRecDepth 100000 in
set_option maxHeartbeats 3200000 in
theorem keys8_any (l : List It) (v : Value) (w : World) (hl : l.length ≤ 1000) (hwf : ∀ x, x ∈ l → (Lit.int .i64 x.k).wf = true) (h : Sq fT w v l) :
    Calls Tryd.prog 28 #[v] w fun e w' => (∃ u, e = .returned u ∧ w'.ownsRow w.heap.size 3 1 u (keysT l).length ((keysT l).flatMap fI)) ∧ Fr [] w w' := by
  obtain ⟨av, cv, rfl, hcv, hmv, -⟩ := id h
  have hmm := @run_makeMap Tryd.prog
  have m0 := GMap.made w
  have HWF := Lib.hid hwf
  clear hwf
  go_enter Tryd.func28, Tryd.ntmps28
  go_wp2_with fail
  clear hmm
  have F0 := (Fr.refl [] w).alloc (.map #[] 0)
  generalize (World.alloc w (.map #[] 0)) = w1 at *
  have hbm : w.heap.size ≤ w.heap.size := Nat.le_refl _
  generalize hbm2 : w.heap.size = bm at m0 hbm ⊢
  have HBM := Lib.hid hbm2
  clear hbm2
  go_loopw [9] (KysAt w bm l) (fun x _ => l.length - (match x with | .int _ z => z.toNat | _ => 0))
  case atStart => exact ⟨0, by omega, rfl, m0, F0⟩
  case round =>
    obtain ⟨i, hi, rfl, hG, F⟩ := hrel
    by_cases hlt : i < l.length
    · obtain ⟨x, hx⟩ : ∃ x, l[i]? = some x := ⟨l[i], List.getElem?_eq_getElem hlt⟩
      have hltz : (i : Int) < (l.length : Int) := by omega
      have HST := Lib.hid (memK_step hx)
      have hkw := HWF.out x (List.mem_of_getElem? hx)
      obtain ⟨gs, os, rfl, x0, x1, x2⟩ := it_cells (h.up F) hx
      have E7 := (Fr.refl [] wr).alloc (.cells #[.int .i64 x.k, .int .i64 x.v, .int .i64 x.d] 43)
      obtain ⟨w8, r8, G8, F8⟩ := GMap.put (hG.up E7) Tryd.underlying69 (by unfold maxLen; omega) hkw (.agg #[])
      have E8 := Lib.hid ((F.trans E7).own F8 (by simp; have := HBM.out; omega))
      have HG := Lib.hid G8
      clear hx hG F h E7 G8 F8 hkw
      go_wp2_with fail
      exact ⟨⟨i + 1, by omega, by simp, by rw [← HST.out]; exact HG.out, E8.out⟩, by simp; omega⟩
    · have hltz : ¬ (i : Int) < (l.length : Int) := by omega
      have hie : l.length ≤ i := by omega
      rw [List.take_of_length_le hie] at hG
      have hil : i ≤ 1000 := by omega
      have HS := Lib.hid (sorted_of bm i (memK l) (keysT l) wr hG (by omega) (keysT_rise l) (fun k => by
        rw [mem_keysT]
        unfold memK
        constructor
        · rintro ⟨x, hx, rfl⟩
          rw [if_pos (by rw [List.any_eq_true]; exact ⟨x, hx, by simp⟩)]; rfl
        · intro hh
          split at hh
          · rename_i ha
            obtain ⟨x, hx, e⟩ := List.any_eq_true.1 ha
            exact ⟨x, hx, by simpa using e⟩
          · simp at hh))
      have HF := Lib.hid F
      clear hG F h
      go_wp2_with fail
      refine (keys_of bm wr).mono ?_; rintro e _ ⟨rfl, rfl⟩
      go_wp2_with fail
      refine HS.out.mono ?_; rintro e w9 ⟨⟨u, rfl, hr⟩, F9⟩
      have F10 := HF.out.trans (((Fr.refl [] wr).alloc (.cells #[.map (some bm)] 69)).trans F9)
      have hr2 : w9.ownsRow w.heap.size 3 1 u (keysT l).length ((keysT l).flatMap fI) := by
        refine ⟨hr.1, hr.2.imp id ?_⟩
        rintro ⟨g, cap, cur, e1, e2, e3⟩
        have := HF.out.size
        exact ⟨g, cap, cur, e1, by simp at e2; omega, e3⟩
      clear hr F9
      go_wp2_with fail
      go_ret
      exact ⟨⟨u, rfl, hr2⟩, F10⟩
end Go.Proofs.YtdnilnjlbobcmaaDoor.Kp
/- Package keep's Sort and Keys. -/

namespace Go.Proofs.YtdnilnjlbobcmaaDoor.Kp
end Go.Proofs.YtdnilnjlbobcmaaDoor.Kp
