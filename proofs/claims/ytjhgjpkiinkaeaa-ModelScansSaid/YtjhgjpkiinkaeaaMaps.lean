/- Maps from numbers to numbers that a call makes: what they hold, as a function of the key. -/
import Derived.Test.YtjhgjpkiinkaeaaFr
import Derived.Maps.RangeWalk
import Derived.Maps.OwnOps
import Derived.Maps.Views
namespace Go.Proofs.Ytjhgjpkiinkaeaa.Ar
open Go.RowKit Go.Maps
theorem intKey : Keyed Try.prog 3 := int_keyed Try.underlying3
/-- D holds just what g tells. -/
def Holds (D : DataW Unit) (g : Int → Option Int) : Prop :=
  IsMap D ∧ ∀ k : Int, Maps.has D (.int .i64 k) = (g k).isSome ∧ ∀ v, g k = some v → ∀ zd, D.atKey (.int .i64 k) zd = .lit (.int .i64 v)
/-- Block b is a map of at most n numbers that holds what g tells. -/
def IMap (w : World) (b n : Nat) (g : Int → Option Int) : Prop := ∃ D, w.ownsMap Try.prog 3 (plainElem (H := Unit) Try.prog 3) b n D ∧ Holds D g
theorem holds_empty : Holds (.map []) (fun _ => none) := ⟨isMap_empty, fun k => ⟨rfl, fun v h => by cases h⟩⟩
theorem Holds.put {D : DataW Unit} {g : Int → Option Int} (h : Holds D g) (k v : Int) : Holds (D.put (.int .i64 k) (.lit (.int .i64 v))) (fun x => if x = k then some v else g x) := by
  obtain ⟨hm, hg⟩ := h
  refine ⟨hm.put _ _, fun x => ?_⟩
  by_cases hx : x = k
  · subst hx
    have hk : WideAt.IsKeyLit (.int .i64 x) := trivial
    exact ⟨by rw [has_put_same hm hk]; simp, fun u hu zd => by simp at hu; subst hu; exact atKey_put_same hm hk _ _⟩
  · have hne : (Lit.int .i64 x) ≠ Lit.int .i64 k := fun e => hx (by cases e; rfl)
    simp only [if_neg hx]
    rw [has_put_other hne]
    exact ⟨(hg x).1, fun u hu zd => by rw [atKey_put_other hne]; exact (hg x).2 u hu zd⟩
theorem IMap.made (w : World) : IMap (w.alloc (.map #[] 0)) w.heap.size 0 (fun _ => none) := ⟨_, World.ownsMap_made w _ _ _, holds_empty⟩
theorem IMap.kept {w w' : World} {b n : Nat} {g : Int → Option Int} {S : List Nat} (h : IMap w b n g) (f : Fr S w w') (hb : b ∉ S) : IMap w' b n g := by
  obtain ⟨D, ⟨es, clock, h1, h2⟩, hD⟩ := h
  exact ⟨D, ⟨es, clock, f.heap h1 hb, h2⟩, hD⟩
theorem IMap.lt {w : World} {b n : Nat} {g : Int → Option Int} (h : IMap w b n g) : b < w.heap.size := by
  obtain ⟨D, h1, _⟩ := h; exact h1.lt
theorem Fr.grownAt {w w' : World} {b : Nat} (h : w.grownBy w' (some b)) : Fr [b] w w' := ⟨h.os, h.tape, h.output, h.size, fun k hk hn => h.block k hk (fun e => hn (by cases e; simp))⟩
end Go.Proofs.Ytjhgjpkiinkaeaa.Ar
