/- Maps from keys below 64 to whatever values: what they hold, and that they stay small. -/
import Derived.Test.YteahponbknljlaaFr
import Derived.Maps.OwnSet
namespace Go.Proofs.Yteahponbknljlaa.Ar
open Go.RowKit Go.Maps
/-- An element reads as itself. -/
def asIs (v : Value) : Option (DataW Value × List MemPlace) := some (.held v, [])
def ik (k : Nat) : Lit := .int .i64 k
theorem ik_inj {a b : Nat} (h : ik a = ik b) : a = b := by unfold ik at h; simp at h; omega
theorem intKeyV : Keyed Try.prog 3 := int_keyed Try.underlying3
theorem keyOf_ik {k : Nat} (h : k < 64) : keyOf Try.prog 3 (.int .i64 k) = some (ik k) := keyOf_int_mk Try.underlying3 (WalkArith.wf_i64 (by omega))
/-- How many keys below n are there. -/
def cnt (D : DataW Value) : Nat → Nat
  | 0 => 0
  | n + 1 => cnt D n + if has D (ik n) then 1 else 0
theorem cnt_le (D : DataW Value) (n : Nat) : cnt D n ≤ n := by
  induction n with
  | zero => exact Nat.le_refl _
  | succ n ih => unfold cnt; split <;> omega
theorem cnt_above (D : DataW Value) (k : Nat) (d : DataW Value) (n : Nat) (h : n ≤ k) : cnt (D.put (ik k) d) n = cnt D n := by
  induction n with
  | zero => rfl
  | succ n ih =>
    unfold cnt
    rw [ih (by omega), has_put_other (fun e => by have := ik_inj e; omega)]
theorem cnt_put (D : DataW Value) (hD : IsMap D) (k : Nat) (d : DataW Value) (n : Nat) (h : k < n) : cnt (D.put (ik k) d) n = if has D (ik k) then cnt D n else cnt D n + 1 := by
  induction n with
  | zero => omega
  | succ n ih =>
    unfold cnt
    by_cases e : k = n
    · subst e
      rw [cnt_above D k d k (Nat.le_refl _), has_put_same hD (show WideAt.IsKeyLit (ik k) from trivial)]
      cases has D (ik k) <;> simp
    · rw [ih (by omega), has_put_other (fun h => e (ik_inj h).symm)]
      cases has D (ik k) <;> simp <;> omega
/-- Block b is a map of keys below 64 that reads as D. -/
def VMap (w : World) (b : Nat) (D : DataW Value) : Prop := (∃ n, w.ownsMap Try.prog 3 asIs b n D) ∧ size D ≤ cnt D 64
theorem VMap.lt {w : World} {b : Nat} {D : DataW Value} (h : VMap w b D) : b < w.heap.size := by
  obtain ⟨⟨n, h⟩, -⟩ := h; exact h.lt
theorem VMap.kept {S : List Nat} {w w' : World} {b : Nat} {D : DataW Value} (h : VMap w b D) (f : Fr S w w') (hb : b ∉ S) : VMap w' b D := by
  obtain ⟨⟨n, es, clock, h1, h2⟩, h3⟩ := h
  exact ⟨⟨n, es, clock, f.heap h1 hb, h2⟩, h3⟩
theorem VMap.isMap {w : World} {b : Nat} {D : DataW Value} (h : VMap w b D) : IsMap D := by
  obtain ⟨⟨n, h⟩, -⟩ := h; exact h.isMap
theorem VMap.made (w : World) : VMap (w.alloc (.map #[] 0)) w.heap.size (.map []) := ⟨⟨_, World.ownsMap_made w _ _ _⟩, Nat.zero_le _⟩
theorem VMap.is_map {w : World} {b : Nat} {D : DataW Value} (h : VMap w b D) : ∃ es clock, w.heap[b]? = some (.map es clock) := by
  obtain ⟨⟨n, es, clock, h1, _⟩, _⟩ := h; exact ⟨es, clock, h1⟩
theorem VMap.ne {w : World} {b q : Nat} {D : DataW Value} {cs : Array Value} {T : TypeId} {f : Nat × Nat} (h : VMap w b D) (hq : w.heap[q]? = some (.cells cs T f)) : b ≠ q := by
  rintro rfl
  obtain ⟨es, clock, h1⟩ := h.is_map
  rw [h1] at hq; cases hq
theorem fr_grown_some {w w' : World} {b : Nat} (h : w.grownBy w' (some b)) : Fr [b] w w' := ⟨h.os, h.tape, h.output, h.size, fun k hk hn => h.block k hk (fun e => hn (by cases e; simp))⟩
theorem VMap.put {w : World} {b : Nat} {D : DataW Value} (h : VMap w b D) {t e : TypeId} (ht : Try.prog.underlying t = some (.map 3 e)) {k : Nat} (hk : k < 64) (v : Value) :
    ∃ w', (Instr.mapUpdate t (.map (some b)) (.int .i64 k) v).run Try.prog w = .ok () w' ∧ VMap w' b (D.put (ik k) (.held v)) ∧ Fr [b] w w' := by
  have hM := h.isMap
  obtain ⟨⟨n, h1⟩, h2⟩ := h
  have hT := h1.tidy intKeyV
  have h1' : w.ownsMap Try.prog 3 asIs b (size D) D := by
    obtain ⟨es, clock, hb, F, hs, rfl⟩ := h1
    exact ⟨es, clock, hb, F, by rw [size_eq, length_sorted]; simp, rfl⟩
  have hc := cnt_le D 64
  obtain ⟨w', r1, r2, r3⟩ := h1'.update intKeyV ht (by unfold maxLen; omega) (keyOf_ik hk) (show asIs v = some (.held v, []) from rfl)
  refine ⟨w', r1, ⟨⟨_, r2⟩, ?_⟩, fr_grown_some r3⟩
  rw [size_put hT, cnt_put D hM k _ 64 hk]
  split <;> omega
/-- What is asked of it. -/
theorem VMap.look {w : World} {b : Nat} {D : DataW Value} (h : VMap w b D) {t e : TypeId} (ht : Try.prog.underlying t = some (.map 3 e)) {z : Value} (hz : (zeroValue e).run Try.prog w = .ok z w) {k : Nat} (hk : k < 64) {v : Value} (hv : D.atKey (ik k) (.held z) = .held v) (c : Bool) :
    (Instr.lookup t (.map (some b)) (.int .i64 k) c).run Try.prog w = .ok (if c then .tuple #[v, .bool (has D (ik k))] else v) w := by
  obtain ⟨⟨n, es, clock, hb, F, hs, rfl⟩, -⟩ := h
  rcases Maps.fit_look c intKeyV ht hz hb F (keyOf_ik hk) with ⟨hrun, _, hat⟩ | ⟨e0, y, _, _, hrun, hRv, hat, _⟩
  · rw [has_false_of_atKey hat]
    rw [hat] at hv
    obtain rfl : z = v := by cases hv; rfl
    exact hrun
  · rw [has_true_of_atKey hat]
    have hy : y = (.held e0.val, []) := by unfold asIs at hRv; exact (Option.some.inj hRv).symm
    rw [hat, hy] at hv
    obtain rfl : e0.val = v := by cases hv; rfl
    exact hrun
end Go.Proofs.Yteahponbknljlaa.Ar
