/- The reference's map: a get. -/
import Derived.Test.YtjhgjpkiinkaeaaRDo
namespace Go.Proofs.Ytjhgjpkiinkaeaa.Mp
open Go.RowKit Go.Proofs.Ytjhgjpkiinkaeaa.Ar Go.Proofs.Ytjhgjpkiinkaeaa.Og
set_option linter.unusedVariables false
set_option linter.unusedSimpArgs false
set_option maxRecDepth 100000 in
set_option maxHeartbeats 8000000 in
/-- A get. -/
theorem doR_get (p n : Nat) (V W : Nat → Int) (v t wr : Int) (w : World) (hn : n < 64) (h : fit 3 n v t = true) (R : Rm w p V W) :
    Calls Try.prog 13 #[.pointer (some ⟨p, 0, none⟩), .agg #[.int .i64 3, .int .i64 n, .int .i64 v, .int .i64 t], .int .i64 wr] w fun e w' => e = .returned (ansv ⟨0, decide (0 ≤ V n), max 0 (V n), W n, 0, []⟩ (.slice none 0 0)) ∧ Fr [] w w' := by
  go_enter Try.func13, Try.ntmps13
  go_wp2_with fail
  refine (Ro.isOp_any 3 n v t _).mono ?_; rintro e w1 ⟨rfl, F1⟩
  rw [h]
  have B := Boxed.start F1
  have hlt := R.lt
  have R1 := R.kept B.g (by simp)
  have hsz : w.heap.size ≤ w.heap.size + 1 := by omega
  clear F1 R
  obtain ⟨c0, c1, c2, c3⟩ := Pl.cells4 B.o
  have HB := Lib.hid B.o
  go_wp2_with fail
  clear c0 c1 c2 c3
  refine wp_region_env (by kernel_rfl) [w.heap.size + 1] (fun w2 F2 => ?_)
  refine env_pass [true, true, true, true, true, true, true, true, true, true, true, true, true, true, true, true, true, true, true, true, true, true, true, true, false] 1 (n := 106) (listed' := #[true, true, true, true, true, true, true, true, true, true, true, true, true, true, true, true, true, true, true, true, true, true, true, true, false]) rfl (by kernel_rfl) (by kernel_rfl) (by kernel_rfl) rfl (by kernel_rfl) (fun _ _ d _ _ h => by cases d <;> exact h) (F2.mono (by simp)) ?_
  apply Exists.intro
  refine ⟨fun wf Ff => ?_, ?_⟩
  · obtain ⟨c0, c1, c2, c3⟩ := Pl.cells4 (Ff.heap HB.out (by simp))
    have Rf := R1.kept Ff (by simp; omega)
    have k0 := In.cell c0
    have k1 := In.cell c1
    have k2 := In.cell c2
    have k3 := In.cell c3
    have k4 := In.cell (Rf.cellV hn)
    have k5 := In.cell (Rf.cellW hn)
    clear c0 c1 c2 c3 Rf
    simp only [sel]
    repeat (go_big_quiet_step (fail))
    exact wpQuiet_nil rfl
  generalize hm : (if 0 < V n then V n else 0) = m
  have hm' := Lib.hid (show m = max 0 (V n) by rw [← hm]; split <;> omega)
  refine env_one 24 (by kernel_rfl) rfl rfl (fun w3 F3 => ?_)
  have ha3 := heapUp (F2.trans F3) B.a
  have D3 : Fr [w.heap.size + 1] w1 w3 := (F2.trans F3).mono (by simp)
  clear F2 F3 hm R1
  obtain ⟨a0, a1, a2, a3, a4, a5⟩ := cells6 ha3
  have z0 : ∀ j, w3.frozen? ⟨w.heap.size + 1, j, none⟩ = false := fun j => frozen_of_row _ _ _ _ _ ha3
  go_wp2
  have hc := set6_heap ha3 (.int .i64 0) (.bool (decide (0 ≤ V n))) (.int .i64 m) (.int .i64 (W n)) (.int .i64 0) (.slice none 0 0)
  have ff := set6_fr w3 (w.heap.size + 1) (.int .i64 0) (.bool (decide (0 ≤ V n))) (.int .i64 m) (.int .i64 (W n)) (.int .i64 0) (.slice none 0 0)
  unfold set6 at hc ff
  generalize ((((((w3.setCell ⟨w.heap.size + 1, 0, none⟩ (.int .i64 0)).setCell ⟨w.heap.size + 1, 1, none⟩ (.bool (decide (0 ≤ V n)))).setCell ⟨w.heap.size + 1, 2, none⟩ (.int .i64 m)).setCell ⟨w.heap.size + 1, 3, none⟩ (.int .i64 (W n))).setCell ⟨w.heap.size + 1, 4, none⟩ (.int .i64 0)).setCell ⟨w.heap.size + 1, 5, none⟩ (.slice none 0 0)) = w9 at *
  have D4 := D3.trans ff
  clear a0 a1 a2 a3 a4 a5 z0 ha3 D3 ff
  refine nx_normal ⟨D4, ?_⟩
  refine env_done (by kernel_rfl) (fun w8 F8 => ?_)
  obtain ⟨e0, e1, e2, e3, e4, e5⟩ := cells6 (heapUp F8 hc)
  have G8 := ownOne B.g (D4.then F8) (by omega)
  go_wp2
  exact bodyPost_ret (v := ansv ⟨0, decide (0 ≤ V n), m, W n, 0, []⟩ (.slice none 0 0)) (by simp [results, Try.results13, go_sem, ansv, e0, e1, e2, e3, e4, e5]) rfl ⟨by rw [hm'.out], G8⟩
end Go.Proofs.Ytjhgjpkiinkaeaa.Mp
