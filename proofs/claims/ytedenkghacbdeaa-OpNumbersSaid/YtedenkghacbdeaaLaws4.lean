/- The walks of OpNumbers and OpFields. -/
import Derived.Test.YtedenkghacbdeaaKnown4
namespace Go.Proofs.Ytedenkghacbdeaa.Og
open Go.RowKit Go.Maps Go.Proofs.Ytedenkghacbdeaa.Ar
set_option linter.unusedVariables false
set_option linter.unusedSimpArgs false
theorem wr_in {a x : Int} (h1 : 0 ≤ a) (h2 : a < 8) (h3 : 0 ≤ x) (h4 : x < 1000) : wrOf a x = a * 1000 + x ∧ thr (a * 1000 + x) = a ∧ ind (a * 1000 + x) = x := by
  unfold wrOf thr ind
  rw [if_pos ⟨h1, h2, h3, h4⟩, if_pos (by omega), if_pos (by omega)]
  omega
set_option maxHeartbeats 3200000 in
theorem numbers_true (t u i k : Int) (w : World) (ht : 0 ≤ t ∧ t < 256) (hu : 0 ≤ u ∧ u < 256) (hi : 0 ≤ i ∧ i < 65536) (hk : 0 ≤ k ∧ k < 65536) :
    Calls Try.prog 3 #[.int .u8 t, .int .u8 u, .int .u16 i, .int .u16 k] w fun e w' => e = .returned (.bool true) ∧ Fr [] w w' := by
  go_enter Try.func3, Try.ntmps3
  go_wp2_with fail
  refine (known_true _).mono ?_; rintro e w1 ⟨rfl, F1⟩
  go_wp2_with fail
  have ha : 0 ≤ t % 8 ∧ t % 8 < 8 := by omega
  have hb : 0 ≤ u % 8 ∧ u % 8 < 8 := by omega
  have hx : 0 ≤ i % 1000 ∧ i % 1000 < 1000 := by omega
  have hy : 0 ≤ k % 1000 ∧ k % 1000 < 1000 := by omega
  generalize t % 8 = a at *
  generalize u % 8 = b at *
  generalize i % 1000 = x at *
  generalize k % 1000 = y at *
  obtain ⟨r1, r2, r3⟩ := wr_in ha.1 ha.2 hx.1 hx.2
  obtain ⟨q1, -, -⟩ := wr_in hb.1 hb.2 hy.1 hy.2
  refine (writer_any a x _).mono ?_; rintro e w' ⟨rfl, rfl⟩
  rw [r1]
  go_wp2_with fail
  refine (writer_any b y _).mono ?_; rintro e w' ⟨rfl, rfl⟩
  rw [q1]
  go_wp2_with fail
  refine (of_any (a * 1000 + x) _).mono ?_; rintro e w' ⟨rfl, rfl⟩
  rw [r2, r3]
  have g0 : decide (a * 1000 + x ≥ 0) = true := by simp; omega
  clear r1 r2 r3 q1
  by_cases hab : a = b
  · subst hab
    by_cases hxy : x = y
    · subst hxy
      go_wp2
      go_ret
      exact ⟨rfl, F1⟩
    · have e1 : (a * 1000 + x == a * 1000 + y) = false := by simp; omega
      have e2 : (x == y) = false := by simp [hxy]
      clear hxy
      go_wp2
      go_ret
      exact ⟨rfl, F1⟩
  · have e1 : (a * 1000 + x == b * 1000 + y) = false := by simp; omega
    have e2 : (a == b) = false := by simp [hab]
    clear hab
    go_wp2
    go_ret
    exact ⟨rfl, F1⟩
theorem own1 {p : Nat} {a b c : World} (h : Fr [] a b) (k : Fr [p] b c) (hp : a.heap.size ≤ p) : Fr [] a c := h.own k (fun i hi => by rw [List.mem_singleton.1 hi]; exact hp)
theorem ix20 (a b : Value) (W : World) : (Instr.index 45 (.agg #[a, b]) (.int .u8 0)).run Try.prog W = .ok a W := by kernel_rfl
theorem ix21 (a b : Value) (W : World) : (Instr.index 45 (.agg #[a, b]) (.int .u8 1)).run Try.prog W = .ok b W := by kernel_rfl
set_option maxHeartbeats 3200000 in
theorem fields_true (k ky t v s : Int) (w : World) (hk : 0 ≤ k ∧ k < 256) (hky : 0 ≤ ky ∧ ky < 256) (ht : 0 ≤ t ∧ t < 256) (hv : 0 ≤ v ∧ v < 65536) (hs : 0 ≤ s ∧ s < 256) :
    Calls Try.prog 5 #[.int .u8 k, .int .u8 ky, .int .u8 t, .int .u16 v, .int .u8 s] w fun e w' => e = .returned (.bool true) ∧ Fr [] w w' := by
  go_enter Try.func5, Try.ntmps5
  go_wp2_with fail
  refine (known_true _).mono ?_; rintro e w1 ⟨rfl, F1⟩
  have hk4 : k % 4 = 0 ∨ k % 4 = 1 ∨ k % 4 = 2 ∨ k % 4 = 3 := by omega
  have hs5 : s % 5 = 0 ∨ s % 5 = 1 ∨ s % 5 = 2 ∨ s % 5 = 3 ∨ s % 5 = 4 := by omega
  have hs2 : s / 128 = 0 ∨ s / 128 = 1 := by omega
  have h64 : 0 ≤ ky % 64 ∧ ky % 64 < 64 := by omega
  have t64 : 0 ≤ t % 64 ∧ t % 64 < 64 := by omega
  have HS5 := Lib.hid hs5
  have HS2 := Lib.hid hs2
  clear hs5 hs2
  have x0 := fun a b => ix20 a b
  have x1 := fun a b => ix21 a b
  rcases hk4 with h | h | h | h
  · go_wp2_with fail
    refine (is_any 1 (ky % 64) (v) (0) _ (by decide)).mono ?_; rintro e w2 ⟨rfl, F2⟩
    rw [show fit 1 (ky % 64) (v) (0) = true by unfold fit inF most; simp; omega]
    have hb := heap_up F2 (Go.heap_alloc_new w1 (.cells #[.int .i64 1, .int .i64 (ky % 64), .int .i64 (v), .int .i64 (0)] 40))
    have G2 := (F1.alloc (.cells #[.int .i64 1, .int .i64 (ky % 64), .int .i64 (v), .int .i64 (0)] 40)).trans F2
    have hw : w.heap.size ≤ w1.heap.size := F1.size
    clear F1 F2
    generalize w1.heap.size = bo at *
    obtain ⟨c0, c1, c2, c3⟩ := Pl.cells4 hb
    have z0 : ∀ j, w2.frozen? ⟨bo, j, none⟩ = false := fun j => frozen_of_row _ _ _ _ _ hb
    rcases HS5.out with h5 | h5 | h5 | h5 | h5
    · rcases HS2.out with h2 | h2
      · go_wp2_with fail
        refine (is_any (0) (ky % 64) (v) (0) _ (by decide)).mono ?_; rintro e w3 ⟨rfl, F3⟩
        rw [show fit (0) (ky % 64) (v) (0) = false by unfold fit inF most; simp]
        clear c0 c1 c2 c3 hb x0 x1 z0
        go_wp2
        go_ret
        exact ⟨rfl, (own1 G2 (Fr.setCell (i := 0) (.int .i64 (0)) (List.mem_singleton.2 rfl)) hw).trans F3⟩
      · go_wp2_with fail
        refine (is_any (5) (ky % 64) (v) (0) _ (by decide)).mono ?_; rintro e w3 ⟨rfl, F3⟩
        rw [show fit (5) (ky % 64) (v) (0) = false by unfold fit inF most; simp]
        clear c0 c1 c2 c3 hb x0 x1 z0
        go_wp2
        go_ret
        exact ⟨rfl, (own1 G2 (Fr.setCell (i := 0) (.int .i64 (5)) (List.mem_singleton.2 rfl)) hw).trans F3⟩
    · rcases HS2.out with h2 | h2
      · go_wp2_with fail
        refine (is_any (1) (-1) (v) (0) _ (by decide)).mono ?_; rintro e w3 ⟨rfl, F3⟩
        rw [show fit (1) (-1) (v) (0) = false by unfold fit inF most; simp]
        clear c0 c1 c2 c3 hb x0 x1 z0
        go_wp2
        go_ret
        exact ⟨rfl, (own1 G2 (Fr.setCell (i := 1) (.int .i64 (-1)) (List.mem_singleton.2 rfl)) hw).trans F3⟩
      · go_wp2_with fail
        refine (is_any (1) (64) (v) (0) _ (by decide)).mono ?_; rintro e w3 ⟨rfl, F3⟩
        rw [show fit (1) (64) (v) (0) = false by unfold fit inF most; simp]
        clear c0 c1 c2 c3 hb x0 x1 z0
        go_wp2
        go_ret
        exact ⟨rfl, (own1 G2 (Fr.setCell (i := 1) (.int .i64 (64)) (List.mem_singleton.2 rfl)) hw).trans F3⟩
    · go_wp2_with fail
      refine (is_any (1) (ky % 64) (-1) (0) _ (by decide)).mono ?_; rintro e w3 ⟨rfl, F3⟩
      rw [show fit (1) (ky % 64) (-1) (0) = false by unfold fit inF most; simp]
      clear c0 c1 c2 c3 hb x0 x1 z0
      go_wp2
      go_ret
      exact ⟨rfl, (own1 G2 (Fr.setCell (i := 2) (.int .i64 (-1)) (List.mem_singleton.2 rfl)) hw).trans F3⟩
    · go_wp2_with fail
      refine (is_any (1) (ky % 64) (v) (3) _ (by decide)).mono ?_; rintro e w3 ⟨rfl, F3⟩
      rw [show fit (1) (ky % 64) (v) (3) = false by unfold fit inF most; simp]
      clear c0 c1 c2 c3 hb x0 x1 z0
      go_wp2
      go_ret
      exact ⟨rfl, (own1 G2 (Fr.setCell (i := 3) (.int .i64 (3)) (List.mem_singleton.2 rfl)) hw).trans F3⟩
    · go_wp2_with fail
      refine (is_any (1) (ky % 64) (v) (0) _ (by decide)).mono ?_; rintro e w3 ⟨rfl, F3⟩
      rw [show fit (1) (ky % 64) (v) (0) = true by unfold fit inF most; simp; omega]
      clear c0 c1 c2 c3 hb x0 x1 z0
      go_wp2
      go_ret
      exact ⟨rfl, G2.trans F3⟩
  · go_wp2_with fail
    refine (is_any 2 (ky % 64) (0) (0) _ (by decide)).mono ?_; rintro e w2 ⟨rfl, F2⟩
    rw [show fit 2 (ky % 64) (0) (0) = true by unfold fit inF most; simp; omega]
    have hb := heap_up F2 (Go.heap_alloc_new w1 (.cells #[.int .i64 2, .int .i64 (ky % 64), .int .i64 (0), .int .i64 (0)] 40))
    have G2 := (F1.alloc (.cells #[.int .i64 2, .int .i64 (ky % 64), .int .i64 (0), .int .i64 (0)] 40)).trans F2
    have hw : w.heap.size ≤ w1.heap.size := F1.size
    clear F1 F2
    generalize w1.heap.size = bo at *
    obtain ⟨c0, c1, c2, c3⟩ := Pl.cells4 hb
    have z0 : ∀ j, w2.frozen? ⟨bo, j, none⟩ = false := fun j => frozen_of_row _ _ _ _ _ hb
    rcases HS5.out with h5 | h5 | h5 | h5 | h5
    · rcases HS2.out with h2 | h2
      · go_wp2_with fail
        refine (is_any (0) (ky % 64) (0) (0) _ (by decide)).mono ?_; rintro e w3 ⟨rfl, F3⟩
        rw [show fit (0) (ky % 64) (0) (0) = false by unfold fit inF most; simp]
        clear c0 c1 c2 c3 hb x0 x1 z0
        go_wp2
        go_ret
        exact ⟨rfl, (own1 G2 (Fr.setCell (i := 0) (.int .i64 (0)) (List.mem_singleton.2 rfl)) hw).trans F3⟩
      · go_wp2_with fail
        refine (is_any (5) (ky % 64) (0) (0) _ (by decide)).mono ?_; rintro e w3 ⟨rfl, F3⟩
        rw [show fit (5) (ky % 64) (0) (0) = false by unfold fit inF most; simp]
        clear c0 c1 c2 c3 hb x0 x1 z0
        go_wp2
        go_ret
        exact ⟨rfl, (own1 G2 (Fr.setCell (i := 0) (.int .i64 (5)) (List.mem_singleton.2 rfl)) hw).trans F3⟩
    · rcases HS2.out with h2 | h2
      · go_wp2_with fail
        refine (is_any (2) (-1) (0) (0) _ (by decide)).mono ?_; rintro e w3 ⟨rfl, F3⟩
        rw [show fit (2) (-1) (0) (0) = false by unfold fit inF most; simp]
        clear c0 c1 c2 c3 hb x0 x1 z0
        go_wp2
        go_ret
        exact ⟨rfl, (own1 G2 (Fr.setCell (i := 1) (.int .i64 (-1)) (List.mem_singleton.2 rfl)) hw).trans F3⟩
      · go_wp2_with fail
        refine (is_any (2) (64) (0) (0) _ (by decide)).mono ?_; rintro e w3 ⟨rfl, F3⟩
        rw [show fit (2) (64) (0) (0) = false by unfold fit inF most; simp]
        clear c0 c1 c2 c3 hb x0 x1 z0
        go_wp2
        go_ret
        exact ⟨rfl, (own1 G2 (Fr.setCell (i := 1) (.int .i64 (64)) (List.mem_singleton.2 rfl)) hw).trans F3⟩
    · go_wp2_with fail
      refine (is_any (2) (ky % 64) (1) (0) _ (by decide)).mono ?_; rintro e w3 ⟨rfl, F3⟩
      rw [show fit (2) (ky % 64) (1) (0) = false by unfold fit inF most; simp]
      clear c0 c1 c2 c3 hb x0 x1 z0
      go_wp2
      go_ret
      exact ⟨rfl, (own1 G2 (Fr.setCell (i := 2) (.int .i64 (1)) (List.mem_singleton.2 rfl)) hw).trans F3⟩
    · go_wp2_with fail
      refine (is_any (2) (ky % 64) (0) (3) _ (by decide)).mono ?_; rintro e w3 ⟨rfl, F3⟩
      rw [show fit (2) (ky % 64) (0) (3) = false by unfold fit inF most; simp]
      clear c0 c1 c2 c3 hb x0 x1 z0
      go_wp2
      go_ret
      exact ⟨rfl, (own1 G2 (Fr.setCell (i := 3) (.int .i64 (3)) (List.mem_singleton.2 rfl)) hw).trans F3⟩
    · go_wp2_with fail
      refine (is_any (2) (ky % 64) (0) (0) _ (by decide)).mono ?_; rintro e w3 ⟨rfl, F3⟩
      rw [show fit (2) (ky % 64) (0) (0) = true by unfold fit inF most; simp; omega]
      clear c0 c1 c2 c3 hb x0 x1 z0
      go_wp2
      go_ret
      exact ⟨rfl, G2.trans F3⟩
  · go_wp2_with fail
    refine (is_any 3 (ky % 64) (0) (0) _ (by decide)).mono ?_; rintro e w2 ⟨rfl, F2⟩
    rw [show fit 3 (ky % 64) (0) (0) = true by unfold fit inF most; simp; omega]
    have hb := heap_up F2 (Go.heap_alloc_new w1 (.cells #[.int .i64 3, .int .i64 (ky % 64), .int .i64 (0), .int .i64 (0)] 40))
    have G2 := (F1.alloc (.cells #[.int .i64 3, .int .i64 (ky % 64), .int .i64 (0), .int .i64 (0)] 40)).trans F2
    have hw : w.heap.size ≤ w1.heap.size := F1.size
    clear F1 F2
    generalize w1.heap.size = bo at *
    obtain ⟨c0, c1, c2, c3⟩ := Pl.cells4 hb
    have z0 : ∀ j, w2.frozen? ⟨bo, j, none⟩ = false := fun j => frozen_of_row _ _ _ _ _ hb
    rcases HS5.out with h5 | h5 | h5 | h5 | h5
    · rcases HS2.out with h2 | h2
      · go_wp2_with fail
        refine (is_any (0) (ky % 64) (0) (0) _ (by decide)).mono ?_; rintro e w3 ⟨rfl, F3⟩
        rw [show fit (0) (ky % 64) (0) (0) = false by unfold fit inF most; simp]
        clear c0 c1 c2 c3 hb x0 x1 z0
        go_wp2
        go_ret
        exact ⟨rfl, (own1 G2 (Fr.setCell (i := 0) (.int .i64 (0)) (List.mem_singleton.2 rfl)) hw).trans F3⟩
      · go_wp2_with fail
        refine (is_any (5) (ky % 64) (0) (0) _ (by decide)).mono ?_; rintro e w3 ⟨rfl, F3⟩
        rw [show fit (5) (ky % 64) (0) (0) = false by unfold fit inF most; simp]
        clear c0 c1 c2 c3 hb x0 x1 z0
        go_wp2
        go_ret
        exact ⟨rfl, (own1 G2 (Fr.setCell (i := 0) (.int .i64 (5)) (List.mem_singleton.2 rfl)) hw).trans F3⟩
    · rcases HS2.out with h2 | h2
      · go_wp2_with fail
        refine (is_any (3) (-1) (0) (0) _ (by decide)).mono ?_; rintro e w3 ⟨rfl, F3⟩
        rw [show fit (3) (-1) (0) (0) = false by unfold fit inF most; simp]
        clear c0 c1 c2 c3 hb x0 x1 z0
        go_wp2
        go_ret
        exact ⟨rfl, (own1 G2 (Fr.setCell (i := 1) (.int .i64 (-1)) (List.mem_singleton.2 rfl)) hw).trans F3⟩
      · go_wp2_with fail
        refine (is_any (3) (64) (0) (0) _ (by decide)).mono ?_; rintro e w3 ⟨rfl, F3⟩
        rw [show fit (3) (64) (0) (0) = false by unfold fit inF most; simp]
        clear c0 c1 c2 c3 hb x0 x1 z0
        go_wp2
        go_ret
        exact ⟨rfl, (own1 G2 (Fr.setCell (i := 1) (.int .i64 (64)) (List.mem_singleton.2 rfl)) hw).trans F3⟩
    · go_wp2_with fail
      refine (is_any (3) (ky % 64) (1) (0) _ (by decide)).mono ?_; rintro e w3 ⟨rfl, F3⟩
      rw [show fit (3) (ky % 64) (1) (0) = false by unfold fit inF most; simp]
      clear c0 c1 c2 c3 hb x0 x1 z0
      go_wp2
      go_ret
      exact ⟨rfl, (own1 G2 (Fr.setCell (i := 2) (.int .i64 (1)) (List.mem_singleton.2 rfl)) hw).trans F3⟩
    · go_wp2_with fail
      refine (is_any (3) (ky % 64) (0) (3) _ (by decide)).mono ?_; rintro e w3 ⟨rfl, F3⟩
      rw [show fit (3) (ky % 64) (0) (3) = false by unfold fit inF most; simp]
      clear c0 c1 c2 c3 hb x0 x1 z0
      go_wp2
      go_ret
      exact ⟨rfl, (own1 G2 (Fr.setCell (i := 3) (.int .i64 (3)) (List.mem_singleton.2 rfl)) hw).trans F3⟩
    · go_wp2_with fail
      refine (is_any (3) (ky % 64) (0) (0) _ (by decide)).mono ?_; rintro e w3 ⟨rfl, F3⟩
      rw [show fit (3) (ky % 64) (0) (0) = true by unfold fit inF most; simp; omega]
      clear c0 c1 c2 c3 hb x0 x1 z0
      go_wp2
      go_ret
      exact ⟨rfl, G2.trans F3⟩
  · go_wp2_with fail
    refine (is_any 4 (ky % 64) (0) (t % 64) _ (by decide)).mono ?_; rintro e w2 ⟨rfl, F2⟩
    rw [show fit 4 (ky % 64) (0) (t % 64) = true by unfold fit inF most; simp; omega]
    have hb := heap_up F2 (Go.heap_alloc_new w1 (.cells #[.int .i64 4, .int .i64 (ky % 64), .int .i64 (0), .int .i64 (t % 64)] 40))
    have G2 := (F1.alloc (.cells #[.int .i64 4, .int .i64 (ky % 64), .int .i64 (0), .int .i64 (t % 64)] 40)).trans F2
    have hw : w.heap.size ≤ w1.heap.size := F1.size
    clear F1 F2
    generalize w1.heap.size = bo at *
    obtain ⟨c0, c1, c2, c3⟩ := Pl.cells4 hb
    have z0 : ∀ j, w2.frozen? ⟨bo, j, none⟩ = false := fun j => frozen_of_row _ _ _ _ _ hb
    rcases HS5.out with h5 | h5 | h5 | h5 | h5
    · rcases HS2.out with h2 | h2
      · go_wp2_with fail
        refine (is_any (0) (ky % 64) (0) (t % 64) _ (by decide)).mono ?_; rintro e w3 ⟨rfl, F3⟩
        rw [show fit (0) (ky % 64) (0) (t % 64) = false by unfold fit inF most; simp]
        clear c0 c1 c2 c3 hb x0 x1 z0
        go_wp2
        go_ret
        exact ⟨rfl, (own1 G2 (Fr.setCell (i := 0) (.int .i64 (0)) (List.mem_singleton.2 rfl)) hw).trans F3⟩
      · go_wp2_with fail
        refine (is_any (5) (ky % 64) (0) (t % 64) _ (by decide)).mono ?_; rintro e w3 ⟨rfl, F3⟩
        rw [show fit (5) (ky % 64) (0) (t % 64) = false by unfold fit inF most; simp]
        clear c0 c1 c2 c3 hb x0 x1 z0
        go_wp2
        go_ret
        exact ⟨rfl, (own1 G2 (Fr.setCell (i := 0) (.int .i64 (5)) (List.mem_singleton.2 rfl)) hw).trans F3⟩
    · rcases HS2.out with h2 | h2
      · go_wp2_with fail
        refine (is_any (4) (-1) (0) (t % 64) _ (by decide)).mono ?_; rintro e w3 ⟨rfl, F3⟩
        rw [show fit (4) (-1) (0) (t % 64) = false by unfold fit inF most; simp]
        clear c0 c1 c2 c3 hb x0 x1 z0
        go_wp2
        go_ret
        exact ⟨rfl, (own1 G2 (Fr.setCell (i := 1) (.int .i64 (-1)) (List.mem_singleton.2 rfl)) hw).trans F3⟩
      · go_wp2_with fail
        refine (is_any (4) (64) (0) (t % 64) _ (by decide)).mono ?_; rintro e w3 ⟨rfl, F3⟩
        rw [show fit (4) (64) (0) (t % 64) = false by unfold fit inF most; simp]
        clear c0 c1 c2 c3 hb x0 x1 z0
        go_wp2
        go_ret
        exact ⟨rfl, (own1 G2 (Fr.setCell (i := 1) (.int .i64 (64)) (List.mem_singleton.2 rfl)) hw).trans F3⟩
    · go_wp2_with fail
      refine (is_any (4) (ky % 64) (1) (t % 64) _ (by decide)).mono ?_; rintro e w3 ⟨rfl, F3⟩
      rw [show fit (4) (ky % 64) (1) (t % 64) = false by unfold fit inF most; simp]
      clear c0 c1 c2 c3 hb x0 x1 z0
      go_wp2
      go_ret
      exact ⟨rfl, (own1 G2 (Fr.setCell (i := 2) (.int .i64 (1)) (List.mem_singleton.2 rfl)) hw).trans F3⟩
    · go_wp2_with fail
      refine (is_any (4) (ky % 64) (0) (64) _ (by decide)).mono ?_; rintro e w3 ⟨rfl, F3⟩
      rw [show fit (4) (ky % 64) (0) (64) = false by unfold fit inF most; simp]
      clear c0 c1 c2 c3 hb x0 x1 z0
      go_wp2
      go_ret
      exact ⟨rfl, (own1 G2 (Fr.setCell (i := 3) (.int .i64 (64)) (List.mem_singleton.2 rfl)) hw).trans F3⟩
    · go_wp2_with fail
      refine (is_any (4) (ky % 64) (0) (t % 64) _ (by decide)).mono ?_; rintro e w3 ⟨rfl, F3⟩
      rw [show fit (4) (ky % 64) (0) (t % 64) = true by unfold fit inF most; simp; omega]
      clear c0 c1 c2 c3 hb x0 x1 z0
      go_wp2
      go_ret
      exact ⟨rfl, G2.trans F3⟩
end Go.Proofs.Ytedenkghacbdeaa.Og
