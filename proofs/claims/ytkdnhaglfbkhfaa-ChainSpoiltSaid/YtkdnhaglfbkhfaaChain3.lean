/- Chains, as functions of the words: the latest of each key, the keys in order, what is there now. -/
import Derived.Test.YtkdnhaglfbkhfaaChain2
namespace Go.Proofs.Ytkdnhaglfbkhfaa.Ch
open Go.RowKit Go.Proofs.Ytkdnhaglfbkhfaa.Ar Go.Proofs.Ytkdnhaglfbkhfaa.Mx Go.Proofs.Ytkdnhaglfbkhfaa.Vw
set_option linter.unusedVariables false
set_option linter.unusedSimpArgs false
/-- One more item met. -/
def latU (g : Int → Option It) (x : It) : Int → Option It := if (g x.k).all (fun y => decide (y.v ≤ x.v)) = true then (fun k => if k = x.k then some x else g k) else g
def latF (l : List It) : Int → Option It := l.foldl latU (fun _ => none)
/-- Put in among keys that rise. -/
def insZ (x : Int) : List Int → List Int
  | [] => [x]
  | y :: r => if x < y then x :: y :: r else if x = y then y :: r else y :: insZ x r
def keysZ (l : List It) : List Int := l.foldl (fun a x => insZ x.k a) []
theorem mem_insZ (x : Int) : ∀ (l : List Int) (a : Int), a ∈ insZ x l ↔ a = x ∨ a ∈ l
  | [], a => by simp [insZ]
  | y :: r, a => by
    unfold insZ
    split
    · simp
    · split
      · rename_i h; subst h; simp
      · simp only [List.mem_cons, mem_insZ x r a]
        constructor
        · rintro (h | h | h) <;> simp [h]
        · rintro (h | h | h) <;> simp [h]
theorem insZ_rise (x : Int) : ∀ (l : List Int), l.Pairwise (· < ·) → (insZ x l).Pairwise (· < ·)
  | [], _ => by simp [insZ]
  | y :: r, h => by
    have h' := List.pairwise_cons.1 h
    unfold insZ
    split
    · rename_i hlt
      refine List.pairwise_cons.2 ⟨fun a ha => ?_, h⟩
      rcases List.mem_cons.1 ha with rfl | ha
      · exact hlt
      · have := h'.1 a ha; omega
    · split
      · exact h
      · refine List.pairwise_cons.2 ⟨fun a ha => ?_, insZ_rise x r h'.2⟩
        rcases (mem_insZ x r a).1 ha with rfl | ha
        · omega
        · exact h'.1 a ha
theorem keysZ_fold (l : List It) : ∀ (a : List Int), a.Pairwise (· < ·) → (l.foldl (fun a x => insZ x.k a) a).Pairwise (· < ·) ∧ ∀ k, k ∈ l.foldl (fun a x => insZ x.k a) a ↔ k ∈ a ∨ ∃ x ∈ l, x.k = k := by
  induction l with
  | nil => intro a h; exact ⟨h, by simp⟩
  | cons x l ih =>
    intro a h
    obtain ⟨h1, h2⟩ := ih (insZ x.k a) (insZ_rise _ _ h)
    refine ⟨h1, fun k => ?_⟩
    rw [List.foldl_cons, h2, mem_insZ]
    simp only [List.mem_cons, exists_eq_or_imp]
    constructor
    · rintro ((rfl | h) | h)
      · exact .inr (.inl rfl)
      · exact .inl h
      · exact .inr (.inr h)
    · rintro (h | rfl | h)
      · exact .inl (.inr h)
      · exact .inl (.inl rfl)
      · exact .inr h
theorem keysZ_rise (l : List It) : (keysZ l).Pairwise (· < ·) := (keysZ_fold l [] .nil).1
theorem mem_keysZ (l : List It) (k : Int) : k ∈ keysZ l ↔ ∃ x ∈ l, x.k = k := by unfold keysZ; rw [(keysZ_fold l [] .nil).2]; simp
theorem latU_some (g : Int → Option It) (x : It) (k : Int) : (latU g x k).isSome = ((g k).isSome || decide (k = x.k)) := by
  unfold latU
  by_cases e : k = x.k
  · subst e
    split
    · simp
    · rename_i h
      cases hg : g x.k with
      | none => rw [hg] at h; simp at h
      | some y => simp
  · split <;> simp [e]
theorem latF_fold (l : List It) : ∀ (g : Int → Option It) (k : Int), (l.foldl latU g k).isSome = ((g k).isSome || decide (∃ x ∈ l, x.k = k)) := by
  induction l with
  | nil => intro g k; simp
  | cons x l ih =>
    intro g k
    rw [List.foldl_cons, ih, latU_some]
    by_cases h1 : k = x.k
    · subst h1; simp
    · have h2 : ¬ x.k = k := fun e => h1 e.symm
      simp [h1, h2]
theorem latF_some (l : List It) (k : Int) : (latF l k).isSome = decide (k ∈ keysZ l) := by
  unfold latF; rw [latF_fold]
  simp [mem_keysZ]
/-- What is there. -/
def nowP (g : Int → Option It) (k : Int) : Option (Int × Int) := (g k).bind fun x => if valW x.d = -1 then none else some (k, valW x.d)
def nowL (l : List It) : List (Int × Int) := (keysZ l).filterMap (nowP (latF l))
theorem keysZ_sorted (l : List It) : (keysZ l).mergeSort (fun x y => decide (x ≤ y)) = keysZ l := by
  apply List.mergeSort_of_pairwise
  exact (keysZ_rise l).imp (fun h => by simp; omega)
end Go.Proofs.Ytkdnhaglfbkhfaa.Ch
