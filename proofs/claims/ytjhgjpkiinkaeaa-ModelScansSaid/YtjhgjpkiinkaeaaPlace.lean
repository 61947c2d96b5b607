/- Package place: where what lies: what each function answers, of configurations in bounds. -/
import Derived.Test.YtjhgjpkiinkaeaaArena
namespace Go.Proofs.Ytjhgjpkiinkaeaa.Pl
open Go.RowKit Go.Proofs.Ytjhgjpkiinkaeaa.Ar
theorem cells4 {w : World} {b : Nat} {t : TypeId} {x0 x1 x2 x3 : Value} (h : w.heap[b]? = some (.cells #[x0, x1, x2, x3] t (0, 0))) :
    w.cell? ⟨b, 0, none⟩ = some x0 ∧ w.cell? ⟨b, 1, none⟩ = some x1 ∧ w.cell? ⟨b, 2, none⟩ = some x2 ∧ w.cell? ⟨b, 3, none⟩ = some x3 :=
  ⟨by rw [cell_of_row _ _ _ _ _ _ h]; rfl, by rw [cell_of_row _ _ _ _ _ _ h]; rfl, by rw [cell_of_row _ _ _ _ _ _ h]; rfl, by rw [cell_of_row _ _ _ _ _ _ h]; rfl⟩
/-- What Is tells. -/
def form (t c wd v : Int) : Bool := decide (1 ≤ t) && decide (t ≤ 8) && decide (t + 2 ≤ c) && decide (c ≤ 16) && decide (1 ≤ v) && decide (v ≤ 1048576) && decide (1 ≤ wd) && decide (wd ≤ 20000)
def code (t c wd v : Int) : Int := if form t c wd v = true then (if 21 + t + 3 * c ≤ wd then 0 else 14) else 10
theorem form_iff {t c wd v : Int} : form t c wd v = true ↔ (1 ≤ t ∧ t ≤ 8 ∧ t + 2 ≤ c ∧ c ≤ 16 ∧ 1 ≤ v ∧ v ≤ 1048576 ∧ 1 ≤ wd ∧ wd ≤ 20000) := by
  simp only [form, Bool.and_eq_true, decide_eq_true_eq, and_assoc]
end Go.Proofs.Ytjhgjpkiinkaeaa.Pl
