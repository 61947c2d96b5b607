/- Package keep's compare. -/
import Derived.Test.YteahponbknljlaaCmp
import Derived.Deep.RegionWith
namespace Go.Proofs.Yteahponbknljlaa.Kp
open Go.RowKit Go.Proofs.Yteahponbknljlaa.Mx Go.Proofs.Yteahponbknljlaa.Dr
set_option linter.unusedVariables false
set_option linter.unusedSimpArgs false
theorem cells3 {w : World} {b : Nat} {T : TypeId} {x0 x1 x2 : Value} (h : w.heap[b]? = some (.cells #[x0, x1, x2] T (0, 0))) : w.cell? ⟨b, 0, none⟩ = some x0 ∧ w.cell? ⟨b, 1, none⟩ = some x1 ∧ w.cell? ⟨b, 2, none⟩ = some x2 := by
  refine ⟨?_, ?_, ?_⟩ <;> (unfold World.cell?; simp [h])
theorem cells2 {w : World} {b : Nat} {T : TypeId} {x0 x1 : Value} (h : w.heap[b]? = some (.cells #[x0, x1] T (0, 0))) : w.cell? ⟨b, 0, none⟩ = some x0 ∧ w.cell? ⟨b, 1, none⟩ = some x1 := by
  refine ⟨?_, ?_⟩ <;> (unfold World.cell?; simp [h])
theorem cfZ_or (x y : It) : orZ (cfZ x.k y.k) (cfZ x.v y.v) = cfT x y := by
  unfold orZ cfZ cfT
  by_cases h1 : x.k < y.k
  · simp [h1]
  · by_cases h2 : y.k < x.k
    · simp [h1, h2]
    · simp [h1, h2]
set_option maxRecDepth 100000 in
set_option maxHeartbeats 1600000 in
theorem compare_any (x y : It) (w : World) : Calls Try.prog 22 #[.agg (fT x).toArray, .agg (fT y).toArray] w fun e w' => e = .returned (.int .i64 (cfT x y)) ∧ Fr [] w w' := by
  rw [← cfZ_or]
  go_enter Try.func22, Try.ntmps22
  go_wp2_with fail
  have B1 := Go.heap_alloc_new (w.alloc (.cells (fT x).toArray 26)) (.cells (fT y).toArray 26)
  have B0 := (Below.heap_alloc (w.alloc (.cells (fT x).toArray 26)) (.cells (fT y).toArray 26) w.heap.size (by simp)).trans (Go.heap_alloc_new w (.cells (fT x).toArray 26))
  have F0 : Fr [] w ((w.alloc (.cells (fT x).toArray 26)).alloc (.cells (fT y).toArray 26)) := ((Fr.refl _ _).alloc _).alloc _
  rw [show (w.alloc (.cells (fT x).toArray 26)).heap.size = w.heap.size + 1 by simp] at *
  generalize (w.alloc (.cells (fT x).toArray 26)).alloc (.cells (fT y).toArray 26) = w1 at *
  obtain ⟨a0, a1, -⟩ := cells3 B0
  obtain ⟨b0, b1, -⟩ := cells3 B1
  clear B0 B1
  refine wp_region_env (by kernel_rfl) [] (fun w2 F2 => ?_)
  refine env_pass [true, true, true, true, true, true, true, true, true, true, false, false, false] 3 (n := 17) rfl (by kernel_rfl) (by kernel_rfl) (by kernel_rfl) rfl rfl (fun _ _ d _ _ h => by cases d <;> exact h) F2 ?_
  apply Exists.intro
  refine ⟨fun wf Ff => ?_, ?_⟩
  · have k0 := fun (s : In wf) => In.cell (Ff.cell a0 (by simp)) s
    have k1 := fun (s : In wf) => In.cell (Ff.cell a1 (by simp)) s
    have k2 := fun (s : In wf) => In.cell (Ff.cell b0 (by simp)) s
    have k3 := fun (s : In wf) => In.cell (Ff.cell b1 (by simp)) s
    simp only [sel]
    repeat (go_big_quiet_step ((first | (go_at_call_of 33 (Value.int IntKind.i64 x.k); exact Calls.in_same ((cmp_any x.k y.k _).mono fun e w' h => ⟨h.1, h.2.symm⟩)) | (go_at_call_of 33 (Value.int IntKind.i64 x.v); exact Calls.in_same ((cmp_any x.v y.v _).mono fun e w' h => ⟨h.1, h.2.symm⟩)))))
    exact wpQuiet_nil rfl
  refine env_one 10 (by kernel_rfl) rfl rfl (fun w3 F3 => ?_)
  go_wp2_with fail
  have D3 := Go.heap_alloc_new w3 (.cells #[.int .i64 (cfZ x.k y.k), .int .i64 (cfZ x.v y.v)] 3)
  have F4 := (((F0.trans F2).trans F3).alloc (.cells #[.int .i64 (cfZ x.k y.k), .int .i64 (cfZ x.v y.v)] 3))
  have F5 := (F2.trans F3).alloc (.cells #[.int .i64 (cfZ x.k y.k), .int .i64 (cfZ x.v y.v)] 3)
  generalize hb : w3.heap.size = b3 at *
  generalize w3.alloc (.cells #[.int .i64 (cfZ x.k y.k), .int .i64 (cfZ x.v y.v)] 3) = w4 at *
  refine nx_normal ⟨F5, ?_⟩
  refine env_one 11 (by kernel_rfl) rfl rfl (fun w5 F6 => ?_)
  obtain ⟨d0, d1⟩ := cells2 D3
  have d0' := F6.cell d0 (by simp)
  have d1' := F6.cell d1 (by simp)
  go_wp2_with (go_at_call 32; refine (or_any _ _ _ _ d0' d1').mono ?_; rintro e w' ⟨rfl, rfl⟩)
  refine nx_normal ⟨F5.trans F6, ?_⟩
  refine env_one 12 (by kernel_rfl) rfl rfl (fun w7 F7 => ?_)
  go_wp2_with fail
  refine nx_normal ⟨(F5.trans F6).trans F7, ?_⟩
  refine env_done (by kernel_rfl) (fun w8 F8 => ?_)
  go_wp2_with fail
  go_ret
  exact ⟨rfl, ((F4.trans F6).trans F7).trans F8⟩
end Go.Proofs.Yteahponbknljlaa.Kp
