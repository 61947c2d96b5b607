/- Maps from numbers to numbers that a call makes: what they hold, as a function of the key. -/
import Derived.Test.YtfchbbhopfganaaFr
import Derived.Maps.RangeWalk
import Derived.Maps.OwnOps
import Derived.Maps.Views
namespace Go.Proofs.Ytfchbbhopfganaa.Ar
open Go.RowKit Go.Maps
theorem intKey : Keyed Try.prog 3 := int_keyed Try.underlying3
/-- D holds just what g tells. -/
def Holds (D : DataW Unit) (g : Int → Option Int) : Prop :=
  IsMap D ∧ ∀ k : Int, Maps.has D (.int .i64 k) = (g k).isSome ∧ ∀ v, g k = some v → ∀ zd, D.atKey (.int .i64 k) zd = .lit (.int .i64 v)
/-- Block b is a map of at most n numbers that holds what g tells. -/
def IMap (w : World) (b n : Nat) (g : Int → Option Int) : Prop := ∃ D, w.ownsMap Try.prog 3 (plainElem (H := Unit) Try.prog 3) b n D ∧ Holds D g
theorem holds_empty : Holds (.map []) (fun _ => none) := ⟨isMap_empty, fun k => ⟨rfl, fun v h => by cases h⟩⟩
theorem Holds.put {D : DataW Unit} {g : Int → Option Int} (h : Holds D g) (k v : Int) : Holds (D.put (.int .i64 k) (.lit (.int .i64 v))) (fun x => if x = k then some v else g x) := by
  obtain ⟨hm, hg⟩ := h
  refine ⟨hm.put _ _, fun x => ?_⟩
  by_cases hx : x = k
  · subst hx
    have hk : WideAt.IsKeyLit (.int .i64 x) := trivial
    exact ⟨by rw [has_put_same hm hk]; simp, fun u hu zd => by simp at hu; subst hu; exact atKey_put_same hm hk _ _⟩
  · have hne : (Lit.int .i64 x) ≠ Lit.int .i64 k := fun e => hx (by cases e; rfl)
    simp only [if_neg hx]
    rw [has_put_other hne]
    exact ⟨(hg x).1, fun u hu zd => by rw [atKey_put_other hne]; exact (hg x).2 u hu zd⟩
theorem IMap.made (w : World) : IMap (w.alloc (.map #[] 0)) w.heap.size 0 (fun _ => none) := ⟨_, World.ownsMap_made w _ _ _, holds_empty⟩
theorem IMap.kept {w w' : World} {b n : Nat} {g : Int → Option Int} {S : List Nat} (h : IMap w b n g) (f : Fr S w w') (hb : b ∉ S) : IMap w' b n g := by
  obtain ⟨D, ⟨es, clock, h1, h2⟩, hD⟩ := h
  exact ⟨D, ⟨es, clock, f.heap h1 hb, h2⟩, hD⟩
theorem IMap.lt {w : World} {b n : Nat} {g : Int → Option Int} (h : IMap w b n g) : b < w.heap.size := by
  obtain ⟨D, h1, _⟩ := h; exact h1.lt
theorem Fr.grownAt {w w' : World} {b : Nat} (h : w.grownBy w' (some b)) : Fr [b] w w' := ⟨h.os, h.tape, h.output, h.size, fun k hk hn => h.block k hk (fun e => hn (by cases e; simp))⟩
theorem run_insert {w : World} {b n : Nat} {g : Int → Option Int} (h : IMap w b n g) (hn : n < maxLen) (k v : Int) (hk : (Lit.int .i64 k).wf = true) (hv : (Lit.int .i64 v).wf = true) :
    ∃ w', (Instr.mapUpdate 44 (.map (some b)) (.int .i64 k) (.int .i64 v)).run Try.prog w = .ok () w' ∧ IMap w' b (n + 1) (fun x => if x = k then some v else g x) ∧ Fr [b] w w' := by
  obtain ⟨D, h1, hD⟩ := h
  obtain ⟨w', r1, r2, r3⟩ := h1.update intKey Try.underlying44 hn (keyOf_int_mk Try.underlying3 hk) (plainElem_int Try.underlying3 hv)
  exact ⟨w', r1, ⟨_, r2, hD.put k v⟩, Fr.grownAt r3⟩
/-- A store of a map's literal. -/
theorem wpList_insert {w : World} {ops : Array Oper} {rest : List Oper} {o : Oper} {a : Act} {Q : Exit → Act → World → Prop}
    (hg : o.guard = none) (m x y : Operand) (hop : o.op = Op.insert 44 m x y) {b n : Nat} {g : Int → Option Int} (k v : Int)
    (hm : a.eval m = .map (some b)) (hx : a.eval x = .int .i64 k) (hy : a.eval y = .int .i64 v) (h : IMap w b n g) (hn : n < maxLen) (hk : (Lit.int .i64 k).wf = true) (hv : (Lit.int .i64 v).wf = true)
    (hK : ∀ w', IMap w' b (n + 1) (fun x => if x = k then some v else g x) → Fr [b] w w' → wpList Try.prog ops Q rest (a.put o.dst undef) w') :
    wpList Try.prog ops Q (o :: rest) a w := by
  refine wpList_plain hg fun K' hK' => ?_
  obtain ⟨w', hrun, r1, r2⟩ := run_insert h hn k v hk hv
  unfold Oper.wp
  simp [execOp, hop, hm, hx, hy, hrun, Result.andThen]
  exact hK' _ _ (hK w' r1 r2)
end Go.Proofs.Ytfchbbhopfganaa.Ar
