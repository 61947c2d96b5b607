/- Rows of ops that came in; layer 5's laws over the developers' map. -/
import Derived.Test.YtjhgjpkiinkaeaaMod5Do
import Derived.Test.YtjhgjpkiinkaeaaPlays5

import Derived.Test.YtjhgjpkiinkaeaaCopies
import Derived.Test.YtjhgjpkiinkaeaaLast5
import Derived.Test.YtjhgjpkiinkaeaaDeletes
import Derived.Test.YtjhgjpkiinkaeaaFrame
namespace Go.Proofs.Ytjhgjpkiinkaeaa.Mp
open Go.RowKit Go.Proofs.Ytjhgjpkiinkaeaa.Ar Go.Proofs.Ytjhgjpkiinkaeaa.Og
set_option linter.unusedVariables false
set_option linter.unusedSimpArgs false
theorem ops_row {W : World} {v : Value} {len : Nat} {V : Nat → Nat → Value} (h : Law.Recs W 4 v len V) (hV : ∀ i, i < len → ∀ j, j < 4 → ∃ x : Int, V i j = .int .i64 x ∧ (Lit.int .i64 x).wf = true) : ∃ os, OpRow W v os := by
  obtain ⟨a, cap, rfl, hl, hc⟩ := h
  refine ⟨(List.range len).map fun i => (intOf (V i 0), intOf (V i 1), intOf (V i 2), intOf (V i 3)), a, cap, by simp, by simpa using hl, ?_, ?_⟩
  · intro o ho
    obtain ⟨i, hi, rfl⟩ := List.mem_map.1 ho
    obtain ⟨x, hx, hw⟩ := hV i (List.mem_range.1 hi) 0 (by decide)
    unfold wfO; simp only; rw [hx]; exact hw
  · rcases hc with h0 | ⟨b, off, rfl, hb, hx⟩
    · exact .inl (by simpa using h0)
    · refine .inr ⟨b, off, rfl, hb, fun i hi => ?_⟩
      have hi' : i < len := by simpa using hi
      have e : nthO ((List.range len).map fun i => (intOf (V i 0), intOf (V i 1), intOf (V i 2), intOf (V i 3))) i = (intOf (V i 0), intOf (V i 1), intOf (V i 2), intOf (V i 3)) := by
        unfold nthO; simp [List.getD_eq_getElem?_getD, hi']
      rw [e]
      have key : ∀ j, j < 4 → W.cell? ⟨b, off + (i * 4 + j), none⟩ = some (.int .i64 (intOf (V i j))) := fun j hj => by
        obtain ⟨x, h1, -⟩ := hV i hi' j hj
        rw [hx i hi' j hj, h1]; rfl
      exact ⟨by simpa using key 0 (by decide), by rw [Nat.add_assoc]; exact key 1 (by decide), by rw [Nat.add_assoc]; exact key 2 (by decide), by rw [Nat.add_assoc]; exact key 3 (by decide)⟩
theorem plays_recs (len : Nat) (V : Nat → Nat → Value) (v : Value) (w : World) (ho : Law.Recs w 4 v len V) (hV : ∀ i, i < len → ∀ j, j < 4 → ∃ x : Int, V i j = .int .i64 x ∧ (Lit.int .i64 x).wf = true) :
    Calls Try.prog 3 #[v] w fun e w' => e = .returned (.bool true) ∧ Fr [] w w' := by
  obtain ⟨os, h⟩ := ops_row ho hV
  exact plays_true mapC os v w h
theorem last_recs (len : Nat) (V : Nat → Nat → Value) (k ky x t yr : Int) (v : Value) (w : World) (ho : Law.Recs w 4 v len V) (hV : ∀ i, i < len → ∀ j, j < 4 → ∃ x : Int, V i j = .int .i64 x ∧ (Lit.int .i64 x).wf = true) (hk : (Lit.int .i64 k).wf = true) (hwr : 0 ≤ yr ∧ yr < 65536) :
    Calls Try.prog 4 #[v, .agg #[.int .i64 k, .int .i64 ky, .int .i64 x, .int .i64 t], .int .u16 yr] w fun e w' => e = .returned (.bool true) ∧ Fr [] w w' := by
  obtain ⟨os, h⟩ := ops_row ho hV
  exact last_true mapC os k ky x t yr v w h hk hwr
theorem copies_recs (len len2 : Nat) (V V2 : Nat → Nat → Value) (v v2 : Value) (w : World) (ho : Law.Recs w 4 v len V) (hV : ∀ i, i < len → ∀ j, j < 4 → ∃ x : Int, V i j = .int .i64 x ∧ (Lit.int .i64 x).wf = true) (ho2 : Law.Recs w 4 v2 len2 V2) (hV2 : ∀ i, i < len2 → ∀ j, j < 4 → ∃ x : Int, V2 i j = .int .i64 x ∧ (Lit.int .i64 x).wf = true) :
    Calls Try.prog 6 #[v, v2] w fun e w' => e = .returned (.bool true) ∧ Fr [] w w' := by
  obtain ⟨os, h⟩ := ops_row ho hV
  obtain ⟨os2, h2⟩ := ops_row ho2 hV2
  exact copies_true mapC os os2 v v2 w h h2
end Go.Proofs.Ytjhgjpkiinkaeaa.Mp
