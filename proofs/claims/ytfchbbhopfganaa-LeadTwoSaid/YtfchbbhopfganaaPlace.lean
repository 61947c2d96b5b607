/- Package place: where what lies: what each function answers, of configurations in bounds. -/
import Derived.Test.YtfchbbhopfganaaArena
namespace Go.Proofs.Ytfchbbhopfganaa.Pl
open Go.RowKit Go.Proofs.Ytfchbbhopfganaa.Ar
theorem conf_any (t c wd : Int) (w : World) :
    Calls Try.prog 5 #[.int .i64 t, .int .i64 c, .int .i64 wd] w fun e w' => e = .returned (.agg #[.int .i64 t, .int .i64 c, .int .i64 wd, .int .i64 1000]) ∧ Fr [] w w' := by
  go_enter Try.func5, Try.ntmps5
  go_wp2
  exact bodyPost_ret (v := .agg #[.int .i64 t, .int .i64 c, .int .i64 wd, .int .i64 1000]) (by simp [results, Try.results5, go_sem]) rfl ⟨rfl, (Fr.refl _ _).alloc _⟩
theorem size_any (t c wd v : Int) (h1 : 1 ≤ c) (h2 : c ≤ 16) (w : World) :
    Calls Try.prog 38 #[.agg #[.int .i64 t, .int .i64 c, .int .i64 wd, .int .i64 v]] w fun e w' => e = .returned (.int .i64 (7 + 3 * c)) ∧ Fr [] w w' := by
  go_enter Try.func38, Try.ntmps38
  go_wp2
  go_ret
  exact ⟨rfl, (Fr.refl _ _).alloc _⟩
theorem psa_any (t : Int) (h1 : 0 ≤ t) (h2 : t ≤ 8) (w : World) :
    Calls Try.prog 30 #[.int .i64 t] w fun e w' => e = .returned (.int .i64 (3 + t)) ∧ w = w' := by
  go_enter Try.func30, Try.ntmps30
  go_wp2
  go_ret
  exact ⟨rfl, rfl⟩
theorem firstHint_any (t c wd v : Int) (h1 : 1 ≤ t) (h2 : t ≤ 8) (w : World) :
    Calls Try.prog 20 #[.agg #[.int .i64 t, .int .i64 c, .int .i64 wd, .int .i64 v]] w fun e w' => e = .returned (.int .i64 (3 + t)) ∧ Fr [] w w' := by
  go_enter Try.func20, Try.ntmps20
  go_wp2_with (go_at_call 30; refine (psa_any _ (by omega) h2 _).mono ?_; rintro e w' ⟨rfl, rfl⟩)
  go_ret
  exact ⟨rfl, (Fr.refl _ _).alloc _⟩
theorem head_any (t c wd v : Int) (h1 : 1 ≤ t) (h2 : t ≤ 8) (w : World) :
    Calls Try.prog 8 #[.agg #[.int .i64 t, .int .i64 c, .int .i64 wd, .int .i64 v]] w fun e w' => e = .returned (.int .i64 (3 + t + 4)) ∧ Fr [] w w' := by
  go_enter Try.func8, Try.ntmps8
  go_wp2_with fail
  refine (firstHint_any t c wd v h1 h2 _).mono ?_; rintro e w1 ⟨rfl, F1⟩
  have G := ((Fr.refl [] w).alloc _).trans F1
  clear F1
  go_wp2
  go_ret
  exact ⟨rfl, G⟩
theorem first_any (t c wd v : Int) (h1 : 1 ≤ t) (h2 : t ≤ 8) (w : World) :
    Calls Try.prog 14 #[.agg #[.int .i64 t, .int .i64 c, .int .i64 wd, .int .i64 v]] w fun e w' => e = .returned (.int .i64 (3 + t + 4 + 7)) ∧ Fr [] w w' := by
  go_enter Try.func14, Try.ntmps14
  go_wp2_with fail
  refine (head_any t c wd v h1 h2 _).mono ?_; rintro e w1 ⟨rfl, F1⟩
  have G := ((Fr.refl [] w).alloc _).trans F1
  clear F1
  go_wp2
  go_ret
  exact ⟨rfl, G⟩
theorem cells4 {w : World} {b : Nat} {t : TypeId} {x0 x1 x2 x3 : Value} (h : w.heap[b]? = some (.cells #[x0, x1, x2, x3] t (0, 0))) :
    w.cell? ⟨b, 0, none⟩ = some x0 ∧ w.cell? ⟨b, 1, none⟩ = some x1 ∧ w.cell? ⟨b, 2, none⟩ = some x2 ∧ w.cell? ⟨b, 3, none⟩ = some x3 :=
  ⟨by rw [cell_of_row _ _ _ _ _ _ h]; rfl, by rw [cell_of_row _ _ _ _ _ _ h]; rfl, by rw [cell_of_row _ _ _ _ _ _ h]; rfl, by rw [cell_of_row _ _ _ _ _ _ h]; rfl⟩
theorem top_any (t c wd v : Int) (h1 : 1 ≤ t) (h2 : t ≤ 8) (h3 : 1 ≤ c) (h4 : c ≤ 16) (w : World) :
    Calls Try.prog 29 #[.agg #[.int .i64 t, .int .i64 c, .int .i64 wd, .int .i64 v]] w fun e w' => e = .returned (.int .i64 (21 + t + 3 * c)) ∧ Fr [] w w' := by
  go_enter Try.func29, Try.ntmps29
  go_wp2_with fail
  obtain ⟨c0, c1, c2, c3⟩ := cells4 (Go.heap_alloc_new w (.cells #[.int .i64 t, .int .i64 c, .int .i64 wd, .int .i64 v] 25))
  have k0 := In.cell c0
  have k1 := In.cell c1
  have k2 := In.cell c2
  have k3 := In.cell c3
  clear c0 c1 c2 c3
  refine wp_region_in (by kernel_rfl) (by kernel_rfl) ?_
  repeat (go_big_quiet_step ((first | (go_at_call 14; exact Calls.in_ (first_any _ _ _ _ h1 h2 _)) | (go_at_call 38; exact Calls.in_ (size_any _ _ _ _ h3 h4 _)))))
  refine wpQuiet_nil ?_
  intro w1 F1
  go_wp2
  go_ret
  exact ⟨ret_eq (by omega), ((Fr.refl [] w).alloc _).trans F1⟩
theorem within_true (n a b : Int) (h1 : a ≤ n) (h2 : n ≤ b) (w : World) :
    Calls Try.prog 28 #[.int .i64 n, .int .i64 a, .int .i64 b] w fun e w' => e = .returned (.bool true) ∧ w = w' := by
  go_enter Try.func28, Try.ntmps28
  go_wp2
  go_ret
  exact ⟨rfl, rfl⟩
theorem within_false (n a b : Int) (h : n < a ∨ b < n) (w : World) :
    Calls Try.prog 28 #[.int .i64 n, .int .i64 a, .int .i64 b] w fun e w' => e = .returned (.bool false) ∧ w = w' := by
  by_cases h1 : n < a
  · clear h
    go_enter Try.func28, Try.ntmps28
    go_wp2
    go_ret
    exact ⟨rfl, rfl⟩
  · have h2 : b < n := by omega
    have h3 : a ≤ n := by omega
    have hf : decide (n ≤ b) = false := by simp; omega
    clear h h1 h2
    go_enter Try.func28, Try.ntmps28
    go_wp2
    go_ret
    exact ⟨rfl, rfl⟩
/-- An error of that number, as a value; 0: none. -/
def errv (n : Int) : Value := if n = 0 then .nilIface else .iface 62 (.int .i64 n)
/-- What Is tells. -/
def form (t c wd v : Int) : Bool := decide (1 ≤ t) && decide (t ≤ 8) && decide (t + 2 ≤ c) && decide (c ≤ 16) && decide (1 ≤ v) && decide (v ≤ 1048576) && decide (1 ≤ wd) && decide (wd ≤ 20000)
def code (t c wd v : Int) : Int := if form t c wd v = true then (if 21 + t + 3 * c ≤ wd then 0 else 14) else 10
theorem form_iff {t c wd v : Int} : form t c wd v = true ↔ (1 ≤ t ∧ t ≤ 8 ∧ t + 2 ≤ c ∧ c ≤ 16 ∧ 1 ≤ v ∧ v ≤ 1048576 ∧ 1 ≤ wd ∧ wd ≤ 20000) := by
  simp only [form, Bool.and_eq_true, decide_eq_true_eq, and_assoc]
set_option maxHeartbeats 800000 in
theorem is_form (t c wd v : Int) (h : t < 1 ∨ 8 < t ∨ c < t + 2 ∨ 16 < c ∨ v < 1 ∨ 1048576 < v ∨ wd < 1 ∨ 20000 < wd) (w : World) :
    Calls Try.prog 16 #[.agg #[.int .i64 t, .int .i64 c, .int .i64 wd, .int .i64 v]] w fun e w' => e = .returned (.iface 62 (.int .i64 10)) ∧ Fr [] w w' := by
  by_cases hh : t < 1 ∨ 8 < t
  · clear h
    have F := within_false t 1 8 hh
    have H := Lib.hid F
    clear F hh
    go_enter Try.func16, Try.ntmps16
    go_wp2_with fail
    refine (H.out _).mono ?_; rintro e w1 ⟨rfl, rfl⟩
    go_wp2
    go_ret
    exact ⟨rfl, (Fr.refl _ _).alloc _⟩
  · have T := Lib.hid (within_true t 1 8 (by omega) (by omega))
    have t1 : 1 ≤ t := by omega
    have t2 : t ≤ 8 := by omega
    by_cases hc : c < t + 2 ∨ 16 < c
    · have H := Lib.hid (within_false c (t + 2) 16 hc)
      clear h hh hc
      go_enter Try.func16, Try.ntmps16
      go_wp2_with fail
      refine (T.out _).mono ?_; rintro e w1 ⟨rfl, rfl⟩
      go_wp2_with fail
      refine (H.out _).mono ?_; rintro e w1 ⟨rfl, rfl⟩
      go_wp2
      go_ret
      exact ⟨rfl, (Fr.refl _ _).alloc _⟩
    · have C := Lib.hid (within_true c (t + 2) 16 (by omega) (by omega))
      by_cases hv : v < 1 ∨ 1048576 < v
      · have H := Lib.hid (within_false v 1 1048576 hv)
        clear h hh hc hv
        go_enter Try.func16, Try.ntmps16
        go_wp2_with fail
        refine (T.out _).mono ?_; rintro e w1 ⟨rfl, rfl⟩
        go_wp2_with fail
        refine (C.out _).mono ?_; rintro e w1 ⟨rfl, rfl⟩
        go_wp2_with fail
        refine (H.out _).mono ?_; rintro e w1 ⟨rfl, rfl⟩
        go_wp2
        go_ret
        exact ⟨rfl, (Fr.refl _ _).alloc _⟩
      · have V := Lib.hid (within_true v 1 1048576 (by omega) (by omega))
        have H := Lib.hid (within_false wd 1 20000 (by omega))
        clear h hh hc hv
        go_enter Try.func16, Try.ntmps16
        go_wp2_with fail
        refine (T.out _).mono ?_; rintro e w1 ⟨rfl, rfl⟩
        go_wp2_with fail
        refine (C.out _).mono ?_; rintro e w1 ⟨rfl, rfl⟩
        go_wp2_with fail
        refine (V.out _).mono ?_; rintro e w1 ⟨rfl, rfl⟩
        go_wp2_with fail
        refine (H.out _).mono ?_; rintro e w1 ⟨rfl, rfl⟩
        go_wp2
        go_ret
        exact ⟨rfl, (Fr.refl _ _).alloc _⟩
set_option maxHeartbeats 800000 in
theorem is_well (t c wd v : Int) (h : form t c wd v = true) (w : World) :
    Calls Try.prog 16 #[.agg #[.int .i64 t, .int .i64 c, .int .i64 wd, .int .i64 v]] w fun e w' => e = .returned (errv (if 21 + t + 3 * c ≤ wd then 0 else 14)) ∧ Fr [] w w' := by
  obtain ⟨t1, t2, c1, c2, v1, v2, w1, w2⟩ := form_iff.1 h
  have T := Lib.hid (within_true t 1 8 t1 t2)
  have C := Lib.hid (within_true c (t + 2) 16 c1 c2)
  have V := Lib.hid (within_true v 1 1048576 v1 v2)
  have W := Lib.hid (within_true wd 1 20000 w1 w2)
  have TP := Lib.hid (top_any t c wd v t1 t2 (by omega) c2)
  clear h c1
  by_cases hf : 21 + t + 3 * c ≤ wd
  all_goals
    first | rw [if_pos hf] | rw [if_neg hf]
    go_enter Try.func16, Try.ntmps16
    go_wp2_with fail
    refine (T.out _).mono ?_; rintro e w1 ⟨rfl, rfl⟩
    go_wp2_with fail
    refine (C.out _).mono ?_; rintro e w1 ⟨rfl, rfl⟩
    go_wp2_with fail
    refine (V.out _).mono ?_; rintro e w1 ⟨rfl, rfl⟩
    go_wp2_with fail
    refine (W.out _).mono ?_; rintro e w1 ⟨rfl, rfl⟩
    go_wp2_with fail
    obtain ⟨c0, c1, c2, c3⟩ := cells4 (Go.heap_alloc_new w (.cells #[.int .i64 t, .int .i64 c, .int .i64 wd, .int .i64 v] 25))
    have k0 := In.cell c0
    have k1 := In.cell c1
    have k2 := In.cell c2
    have k3 := In.cell c3
    clear c0 c1 c2 c3
    refine wp_region_in (by kernel_rfl) (by kernel_rfl) ?_
    repeat (go_big_quiet_step ((go_at_call 29; exact Calls.in_ (TP.out _))))
    refine wpQuiet_nil ?_
    intro w1 F1
    have G := ((Fr.refl [] w).alloc _).trans F1
    clear F1
    go_wp2
    go_ret
    exact ⟨rfl, G⟩
theorem is_any (t c wd v : Int) (w : World) :
    Calls Try.prog 16 #[.agg #[.int .i64 t, .int .i64 c, .int .i64 wd, .int .i64 v]] w fun e w' => e = .returned (errv (code t c wd v)) ∧ Fr [] w w' := by
  cases h : form t c wd v
  · have hn : ¬ form t c wd v = true := by simp [h]
    rw [form_iff] at hn
    rw [code, if_neg (by simp [h])]
    exact is_form t c wd v (by omega) w
  · rw [code, if_pos h]; exact is_well t c wd v h w
end Go.Proofs.Ytfchbbhopfganaa.Pl
