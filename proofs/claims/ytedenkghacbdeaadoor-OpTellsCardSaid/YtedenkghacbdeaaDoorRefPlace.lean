/- The reference's places: what each function answers: the same as package place's. -/
import Derived.Test.YtedenkghacbdeaaDoorFirst
import Derived.Test.YtedenkghacbdeaaDoorRar
namespace Go.Proofs.YtedenkghacbdeaaDoor.Ref
open Go.RowKit Go.Proofs.YtedenkghacbdeaaDoor.Ar Go.Proofs.YtedenkghacbdeaaDoor.Pl
theorem size_any (t c wd v : Int) (h1 : 1 ≤ c) (h2 : c ≤ 16) (w : World) :
    Calls Tryd.prog 51 #[.agg #[.int .i64 t, .int .i64 c, .int .i64 wd, .int .i64 v]] w fun e w' => e = .returned (.int .i64 (7 + 3 * c)) ∧ Fr [] w w' := by
  go_enter Tryd.func51, Tryd.ntmps51
  go_wp2
  go_ret
  exact ⟨rfl, (Fr.refl _ _).alloc _⟩
theorem head_any (t c wd v : Int) (h1 : 1 ≤ t) (h2 : t ≤ 8) (w : World) :
    Calls Tryd.prog 53 #[.agg #[.int .i64 t, .int .i64 c, .int .i64 wd, .int .i64 v]] w fun e w' => e = .returned (.int .i64 (3 + t + 4)) ∧ Fr [] w w' := by
  go_enter Tryd.func53, Tryd.ntmps53
  go_wp2
  go_ret
  exact ⟨rfl, (Fr.refl _ _).alloc _⟩
theorem first_any (t c wd v : Int) (h1 : 1 ≤ t) (h2 : t ≤ 8) (w : World) :
    Calls Tryd.prog 50 #[.agg #[.int .i64 t, .int .i64 c, .int .i64 wd, .int .i64 v]] w fun e w' => e = .returned (.int .i64 (3 + t + 4 + 7)) ∧ Fr [] w w' := by
  go_enter Tryd.func50, Tryd.ntmps50
  go_wp2_with fail
  refine (head_any t c wd v h1 h2 _).mono ?_; rintro e w1 ⟨rfl, F1⟩
  have G := ((Fr.refl [] w).alloc _).trans F1
  clear F1
  go_wp2
  go_ret
  exact ⟨rfl, G⟩
theorem top_any (t c wd v : Int) (h1 : 1 ≤ t) (h2 : t ≤ 8) (h3 : 1 ≤ c) (h4 : c ≤ 16) (w : World) :
    Calls Tryd.prog 43 #[.agg #[.int .i64 t, .int .i64 c, .int .i64 wd, .int .i64 v]] w fun e w' => e = .returned (.int .i64 (21 + t + 3 * c)) ∧ Fr [] w w' := by
  go_enter Tryd.func43, Tryd.ntmps43
  go_wp2_with fail
  obtain ⟨c0, c1, c2, c3⟩ := cells4 (Go.heap_alloc_new w (.cells #[.int .i64 t, .int .i64 c, .int .i64 wd, .int .i64 v] 25))
  have k0 := In.cell c0
  have k1 := In.cell c1
  have k2 := In.cell c2
  have k3 := In.cell c3
  clear c0 c1 c2 c3
  refine wp_region_in (by kernel_rfl) (by kernel_rfl) ?_
  repeat (go_big_quiet_step ((first | (go_at_call 50; exact Calls.in_ (first_any _ _ _ _ h1 h2 _)) | (go_at_call 51; exact Calls.in_ (size_any _ _ _ _ h3 h4 _)))))
  refine wpQuiet_nil ?_
  intro w1 F1
  go_wp2
  go_ret
  exact ⟨ret_eq (by omega), ((Fr.refl [] w).alloc _).trans F1⟩
set_option maxHeartbeats 1600000 in
theorem isConf_form (t c wd v : Int) (h : t < 1 ∨ 8 < t ∨ c < t + 2 ∨ 16 < c ∨ v < 1 ∨ 1048576 < v ∨ wd < 1 ∨ 20000 < wd) (w : World) :
    Calls Tryd.prog 28 #[.agg #[.int .i64 t, .int .i64 c, .int .i64 wd, .int .i64 v]] w fun e w' => e = .returned (.int .i64 10) ∧ Fr [] w w' := by
  by_cases a1 : t < 1
  · clear h
    go_enter Tryd.func28, Tryd.ntmps28
    go_wp2
    go_ret
    exact ⟨rfl, (Fr.refl _ _).alloc _⟩
  by_cases a2 : 8 < t
  · clear h
    have b1 : decide (t < 1) = false := by simpa using a1
    clear a1
    go_enter Tryd.func28, Tryd.ntmps28
    go_wp2
    go_ret
    exact ⟨rfl, (Fr.refl _ _).alloc _⟩
  have b1 : decide (t < 1) = false := by simpa using a1
  have b2 : decide (8 < t) = false := by simpa using a2
  have t1 : 1 ≤ t := by omega
  have t2 : t ≤ 8 := by omega
  clear a1 a2
  by_cases a3 : c < t + 2
  · clear h
    go_enter Tryd.func28, Tryd.ntmps28
    go_wp2
    go_ret
    exact ⟨rfl, (Fr.refl _ _).alloc _⟩
  have b3 : decide (c < t + 2) = false := by simpa using a3
  clear a3
  by_cases a4 : 16 < c
  · clear h
    go_enter Tryd.func28, Tryd.ntmps28
    go_wp2
    go_ret
    exact ⟨rfl, (Fr.refl _ _).alloc _⟩
  have b4 : decide (16 < c) = false := by simpa using a4
  clear a4
  by_cases a5 : v < 1
  · clear h
    go_enter Tryd.func28, Tryd.ntmps28
    go_wp2
    go_ret
    exact ⟨rfl, (Fr.refl _ _).alloc _⟩
  have b5 : decide (v < 1) = false := by simpa using a5
  clear a5
  by_cases a6 : 1048576 < v
  · clear h
    go_enter Tryd.func28, Tryd.ntmps28
    go_wp2
    go_ret
    exact ⟨rfl, (Fr.refl _ _).alloc _⟩
  have b6 : decide (1048576 < v) = false := by simpa using a6
  clear a6
  by_cases a7 : wd < 1
  · clear h
    go_enter Tryd.func28, Tryd.ntmps28
    go_wp2
    go_ret
    exact ⟨rfl, (Fr.refl _ _).alloc _⟩
  have b7 : decide (wd < 1) = false := by simpa using a7
  have a8 : 20000 < wd := by simp at b3 b4 b5 b6 b7; omega
  clear a7 h
  go_enter Tryd.func28, Tryd.ntmps28
  go_wp2
  go_ret
  exact ⟨rfl, (Fr.refl _ _).alloc _⟩
set_option maxHeartbeats 1600000 in
theorem isConf_well (t c wd v : Int) (h : form t c wd v = true) (w : World) :
    Calls Tryd.prog 28 #[.agg #[.int .i64 t, .int .i64 c, .int .i64 wd, .int .i64 v]] w fun e w' => e = .returned (.int .i64 (if 21 + t + 3 * c ≤ wd then 0 else 14)) ∧ Fr [] w w' := by
  obtain ⟨t1, t2, c1, c2, v1, v2, w1, w2⟩ := form_iff.1 h
  have TP := Lib.hid (top_any t c wd v t1 t2 (by omega) c2)
  have b1 : decide (t < 1) = false := by simp; omega
  have b2 : decide (8 < t) = false := by simp; omega
  have b3 : decide (c < t + 2) = false := by simp; omega
  have b4 : decide (16 < c) = false := by simp; omega
  have b5 : decide (v < 1) = false := by simp; omega
  have b6 : decide (1048576 < v) = false := by simp; omega
  have b7 : decide (wd < 1) = false := by simp; omega
  have b8 : decide (20000 < wd) = false := by simp; omega
  clear h c1 c2 v1 v2 w1 w2
  by_cases hf : 21 + t + 3 * c ≤ wd
  all_goals
    first | rw [if_pos hf] | rw [if_neg hf]
    go_enter Tryd.func28, Tryd.ntmps28
    go_wp2_with fail
    obtain ⟨c0, c1, c2, c3⟩ := cells4 (Go.heap_alloc_new w (.cells #[.int .i64 t, .int .i64 c, .int .i64 wd, .int .i64 v] 25))
    have k0 := In.cell c0
    have k1 := In.cell c1
    have k2 := In.cell c2
    have k3 := In.cell c3
    clear c0 c1 c2 c3
    refine wp_region_in (by kernel_rfl) (by kernel_rfl) ?_
    repeat (go_big_quiet_step ((go_at_call 43; exact Calls.in_ (TP.out _))))
    refine wpQuiet_nil ?_
    intro w1 F1
    have G := ((Fr.refl [] w).alloc _).trans F1
    clear F1
    go_wp2
    go_ret
    exact ⟨rfl, G⟩
theorem isConf_any (t c wd v : Int) (w : World) :
    Calls Tryd.prog 28 #[.agg #[.int .i64 t, .int .i64 c, .int .i64 wd, .int .i64 v]] w fun e w' => e = .returned (.int .i64 (code t c wd v)) ∧ Fr [] w w' := by
  cases h : form t c wd v
  · have hn : ¬ form t c wd v = true := by simp [h]
    rw [form_iff] at hn
    rw [code, if_neg (by simp [h])]
    exact isConf_form t c wd v (by omega) w
  · rw [code, if_pos h]; exact isConf_well t c wd v h w
theorem isConf_of {n : Int} (t c wd v : Int) (h : code t c wd v = n) (w : World) :
    Calls Tryd.prog 28 #[.agg #[.int .i64 t, .int .i64 c, .int .i64 wd, .int .i64 v]] w fun e w' => e = .returned (.int .i64 n) ∧ Fr [] w w' := h ▸ isConf_any t c wd v w
end Go.Proofs.YtedenkghacbdeaaDoor.Ref
