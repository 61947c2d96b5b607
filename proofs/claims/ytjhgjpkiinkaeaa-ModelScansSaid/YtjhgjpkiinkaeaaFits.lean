/- Package op: which ops may be. -/
import Derived.Test.YtjhgjpkiinkaeaaSlots
import Derived.Test.YtjhgjpkiinkaeaaPlace
namespace Go.Proofs.Ytjhgjpkiinkaeaa.Og
open Go.RowKit Go.Maps Go.Proofs.Ytjhgjpkiinkaeaa.Ar
set_option linter.unusedVariables false
/-- A field within its bounds. -/
def inF (k f x : Int) : Bool := decide (0 ≤ x) && decide (x ≤ (most k f).getD 0)
/-- An op that may be. -/
def fit (k ky v t : Int) : Bool := (most k 0).isSome && (inF k 0 ky && (inF k 1 v && inF k 2 t))
theorem ix0 (a b c : Value) (W : World) : (Instr.index 68 (.agg #[a, b, c]) (.int .i64 0)).run Try.prog W = .ok a W := by kernel_rfl
theorem ix1 (a b c : Value) (W : World) : (Instr.index 68 (.agg #[a, b, c]) (.int .i64 1)).run Try.prog W = .ok b W := by kernel_rfl
theorem ix2 (a b c : Value) (W : World) : (Instr.index 68 (.agg #[a, b, c]) (.int .i64 2)).run Try.prog W = .ok c W := by kernel_rfl
/-- Where the loop over the three fields stands. -/
def FitAt (w : World) (k ky v t : Int) (x : Value) (wr : World) : Prop := ∃ n : Int, 0 ≤ n ∧ n ≤ 3 ∧ x = .int .i64 n ∧ wr = w ∧ (1 ≤ n → inF k 0 ky = true) ∧ (2 ≤ n → inF k 1 v = true) ∧ (3 ≤ n → inF k 2 t = true)
theorem inF_false {k f x : Int} (h : x < 0 ∨ (most k f).getD 0 < x) : inF k f x = false := by unfold inF; simp; omega
theorem inF_true {k f x : Int} (h : ¬ x < 0) (h2 : ¬ (most k f).getD 0 < x) : inF k f x = true := by unfold inF; simp; omega
set_option maxHeartbeats 1600000 in
theorem fits_any (k ky v t : Int) (b : Nat) (w : World) (hk : (Lit.int .i64 k).wf = true) (h : Slots w b) :
    Calls Try.prog 25 #[.agg #[.int .i64 k, .int .i64 ky, .int .i64 v, .int .i64 t], .map (some b)] w fun e w' => e = .returned (.bool (fit k ky v t)) ∧ Fr [] w w' := by
  have F1 := (Fr.refl [] w).alloc (.cells #[.int .i64 k, .int .i64 ky, .int .i64 v, .int .i64 t] 34)
  have M := SMap.kept h F1 (by simp)
  have l0 := M.look true k 0 hk (by decide)
  have m0 := M.look false k 0 hk (by decide)
  have m1 := M.look false k 1 hk (by decide)
  have m2 := M.look false k 2 hk (by decide)
  simp only [sv, if_true, Bool.false_eq_true, if_false] at l0 m0 m1 m2
  clear M
  have x0 := ix0 (.int .i64 ky) (.int .i64 v) (.int .i64 t)
  have x1 := ix1 (.int .i64 ky) (.int .i64 v) (.int .i64 t)
  have x2 := ix2 (.int .i64 ky) (.int .i64 v) (.int .i64 t)
  go_enter Try.func25, Try.ntmps25
  cases hs : (most k 0).isSome with
  | false =>
    rw [hs] at l0
    go_wp2
    go_ret
    exact ⟨by unfold fit; rw [hs]; rfl, F1⟩
  | true =>
    rw [hs] at l0
    go_wp2_with fail
    go_loopw [26] (FitAt (w.alloc (.cells #[.int .i64 k, .int .i64 ky, .int .i64 v, .int .i64 t] 34)) k ky v t) (fun x _ => 3 - (intOf x).toNat)
    case atStart => exact ⟨0, by omega, by omega, rfl, rfl, by omega, by omega, by omega⟩
    case round =>
      obtain ⟨n, hn0, hn, rfl, rfl, i0, i1, i2⟩ := hrel
      by_cases h3 : n = 3
      · subst h3
        go_wp2
        go_ret
        exact ⟨by unfold fit; rw [hs, i0 (by omega), i1 (by omega), i2 (by omega)]; rfl, F1⟩
      have hc : n = 0 ∨ n = 1 ∨ n = 2 := by omega
      rcases hc with rfl | rfl | rfl
      · by_cases hneg : ky < 0
        · go_wp2
          go_ret
          exact ⟨by unfold fit; rw [hs, inF_false (.inl hneg)]; rfl, F1⟩
        · by_cases hbig : (most k 0).getD 0 < ky
          · go_wp2
            go_ret
            exact ⟨by unfold fit; rw [hs, inF_false (.inr hbig)]; rfl, F1⟩
          · go_wp2
            exact ⟨⟨1, by omega, by omega, rfl, rfl, fun _ => inF_true hneg hbig, by omega, by omega⟩, by simp [intOf]⟩
      · by_cases hneg : v < 0
        · go_wp2
          go_ret
          exact ⟨by unfold fit; rw [hs, i0 (by omega), inF_false (.inl hneg)]; rfl, F1⟩
        · by_cases hbig : (most k 1).getD 0 < v
          · go_wp2
            go_ret
            exact ⟨by unfold fit; rw [hs, i0 (by omega), inF_false (.inr hbig)]; rfl, F1⟩
          · go_wp2
            exact ⟨⟨2, by omega, by omega, rfl, rfl, fun _ => i0 (by omega), fun _ => inF_true hneg hbig, by omega⟩, by simp [intOf]⟩
      · by_cases hneg : t < 0
        · go_wp2
          go_ret
          exact ⟨by unfold fit; rw [hs, i0 (by omega), i1 (by omega), inF_false (.inl hneg)]; rfl, F1⟩
        · by_cases hbig : (most k 2).getD 0 < t
          · go_wp2
            go_ret
            exact ⟨by unfold fit; rw [hs, i0 (by omega), i1 (by omega), inF_false (.inr hbig)]; rfl, F1⟩
          · go_wp2
            exact ⟨⟨3, by omega, by omega, rfl, rfl, fun _ => i0 (by omega), fun _ => i1 (by omega), fun _ => inF_true hneg hbig⟩, by simp [intOf]⟩
set_option maxHeartbeats 1600000 in
theorem is_any (k ky v t : Int) (w : World) (hk : (Lit.int .i64 k).wf = true) :
    Calls Try.prog 20 #[.agg #[.int .i64 k, .int .i64 ky, .int .i64 v, .int .i64 t]] w fun e w' => e = .returned (.bool (fit k ky v t)) ∧ Fr [] w w' := by
  go_enter Try.func20, Try.ntmps20
  go_wp2_with fail
  obtain ⟨c0, c1, c2, c3⟩ := Pl.cells4 (Go.heap_alloc_new w (.cells #[.int .i64 k, .int .i64 ky, .int .i64 v, .int .i64 t] 34))
  have F1 := (Fr.refl [] w).alloc (.cells #[.int .i64 k, .int .i64 ky, .int .i64 v, .int .i64 t] 34)
  generalize w.alloc (.cells #[.int .i64 k, .int .i64 ky, .int .i64 v, .int .i64 t] 34) = w1 at *
  generalize w.heap.size = bs at *
  have HC := Lib.hid (And.intro c0 (And.intro c1 (And.intro c2 c3)))
  clear c0 c1 c2 c3
  refine wp_region_env (by kernel_rfl) [] (fun w2 F2 => ?_)
  refine env_pass [true, false, false, false] 3 (n := 6) (listed' := #[true, false, false, false]) rfl (by kernel_rfl) (by kernel_rfl) (by kernel_rfl) rfl (by kernel_rfl) (fun _ _ d _ _ h => by cases d <;> exact h) F2 ?_
  apply Exists.intro
  refine ⟨fun wf Ff => ?_, ?_⟩
  · obtain ⟨c0, c1, c2, c3⟩ := HC.out
    have k0 := In.cell (Ff.cell c0 (by simp))
    have k1 := In.cell (Ff.cell c1 (by simp))
    have k2 := In.cell (Ff.cell c2 (by simp))
    have k3 := In.cell (Ff.cell c3 (by simp))
    clear c0 c1 c2 c3
    simp only [sel]
    repeat (go_big_quiet_step (fail))
    exact wpQuiet_nil rfl
  clear HC
  refine env_one 1 (by kernel_rfl) rfl rfl (fun w3 F3 => ?_)
  have D3 := F2.trans F3
  clear F2 F3
  go_wp2_with fail
  refine (slots_any _).mono ?_; rintro e w4 ⟨b, rfl, hb, hS, F4⟩
  have D4 := D3.trans F4
  clear D3 F4
  go_wp2_with fail
  refine nx_normal ⟨D4, ?_⟩
  refine env_one 2 (by kernel_rfl) rfl rfl (fun w5 F5 => ?_)
  have D5 := D4.trans F5
  have hS5 : Slots w5 b := SMap.kept hS F5 (by simp)
  clear D4 hS
  go_wp2_with fail
  refine (fits_any k ky v t b _ hk hS5).mono ?_; rintro e w6 ⟨rfl, F6⟩
  have D6 := D5.trans F6
  go_wp2_with fail
  refine nx_normal ⟨D6, ?_⟩
  refine env_one 3 (by kernel_rfl) rfl rfl (fun w7 F7 => ?_)
  have D7 := D6.trans F7
  go_wp2
  refine nx_normal ⟨D7, ?_⟩
  refine env_done (by kernel_rfl) (fun w8 F8 => ?_)
  go_wp2
  go_ret
  exact ⟨rfl, F1.trans (D7.trans F8)⟩
end Go.Proofs.Ytjhgjpkiinkaeaa.Og
