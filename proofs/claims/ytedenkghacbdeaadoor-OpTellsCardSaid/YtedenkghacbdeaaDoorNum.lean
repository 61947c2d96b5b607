/- Package op's numbers: each op has one, and the number tells it. -/
import Derived.Test.YtedenkghacbdeaaDoorFr
namespace Go.Proofs.YtedenkghacbdeaaDoor.Og
open Go.RowKit Go.Proofs.YtedenkghacbdeaaDoor.Ar
set_option linter.unusedVariables false
set_option linter.unusedSimpArgs false
theorem below_any (n e : Int) (w : World) : Calls Tryd.prog 20 #[.int .i64 n, .int .i64 e] w fun x w' => x = .returned (.bool (decide (0 ≤ n) && decide (n < e))) ∧ w = w' := by
  go_enter Tryd.func20, Tryd.ntmps20
  by_cases h : 0 ≤ n
  · have g : decide (n ≥ 0) = true := by simpa using h
    go_wp2
    go_ret
    exact ⟨by simp [h], rfl⟩
  · have g : decide (n ≥ 0) = false := by simpa using h
    go_wp2
    go_ret
    exact ⟨by simp [h], rfl⟩
def wrOf (t i : Int) : Int := if 0 ≤ t ∧ t < 8 ∧ 0 ≤ i ∧ i < 1000 then t * 1000 + i else -1
theorem writer_any (t i : Int) (w : World) : Calls Tryd.prog 16 #[.int .i64 t, .int .i64 i] w fun x w' => x = .returned (.int .i64 (wrOf t i)) ∧ w = w' := by
  go_enter Tryd.func16, Tryd.ntmps16
  by_cases h : 0 ≤ t ∧ t < 8
  · have g : (decide (0 ≤ t) && decide (t < 8)) = true := by simpa using h
    go_wp2_with fail
    refine (below_any t 8 _).mono ?_; rintro e w' ⟨rfl, rfl⟩
    rw [g]
    go_wp2_with fail
    refine (below_any i 1000 _).mono ?_; rintro e w' ⟨rfl, rfl⟩
    by_cases h2 : 0 ≤ i ∧ i < 1000
    · have g2 : (decide (0 ≤ i) && decide (i < 1000)) = true := by simpa using h2
      rw [g2]
      go_wp2
      go_ret
      exact ⟨by unfold wrOf; rw [if_pos ⟨h.1, h.2, h2.1, h2.2⟩]; rfl, rfl⟩
    · have g2 : (decide (0 ≤ i) && decide (i < 1000)) = false := by simpa using h2
      rw [g2]
      go_wp2
      go_ret
      exact ⟨by unfold wrOf; rw [if_neg (by omega)]; rfl, rfl⟩
  · have g : (decide (0 ≤ t) && decide (t < 8)) = false := by simpa using h
    go_wp2_with fail
    refine (below_any t 8 _).mono ?_; rintro e w' ⟨rfl, rfl⟩
    rw [g]
    go_wp2
    go_ret
    exact ⟨by unfold wrOf; rw [if_neg (by omega)]; rfl, rfl⟩
def thr (x : Int) : Int := if 0 ≤ x ∧ x < 8000 then x / 1000 else -1
def ind (x : Int) : Int := if 0 ≤ x ∧ x < 8000 then x % 1000 else -1
theorem of_any (x : Int) (w : World) : Calls Tryd.prog 5 #[.int .i64 x] w fun e w' => e = .returned (.tuple #[.int .i64 (thr x), .int .i64 (ind x)]) ∧ w = w' := by
  go_enter Tryd.func5, Tryd.ntmps5
  go_wp2_with fail
  refine (below_any x 8000 _).mono ?_; rintro e w' ⟨rfl, rfl⟩
  by_cases h : 0 ≤ x ∧ x < 8000
  · have g : (decide (0 ≤ x) && decide (x < 8000)) = true := by simpa using h
    rw [g]
    go_wp2
    exact bodyPost_ret (v := .tuple #[.int .i64 (thr x), .int .i64 (ind x)]) (by simp [results, Tryd.results5, go_sem, thr, ind, h]) rfl ⟨rfl, rfl⟩
  · have g : (decide (0 ≤ x) && decide (x < 8000)) = false := by simpa using h
    rw [g]
    go_wp2
    exact bodyPost_ret (v := .tuple #[.int .i64 (thr x), .int .i64 (ind x)]) (by simp [results, Tryd.results5, go_sem, thr, ind, h]) rfl ⟨rfl, rfl⟩
end Go.Proofs.YtedenkghacbdeaaDoor.Og
