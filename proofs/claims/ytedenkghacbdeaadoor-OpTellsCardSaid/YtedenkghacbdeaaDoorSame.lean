/- Package op: whether two scripts are the same. -/
import Derived.Test.YtedenkghacbdeaaDoorScr
import Derived.WalkSpells
namespace Go.Proofs.YtedenkghacbdeaaDoor.Og
open Go.RowKit Go.Maps Go.Proofs.YtedenkghacbdeaaDoor.Ar
set_option linter.unusedVariables false
set_option linter.unusedSimpArgs false
theorem opGuard : Tryd.prog.eqGuardType Tryd.prog.depth 23 = false := by kernel_rfl
theorem confGuard : Tryd.prog.eqGuardType Tryd.prog.depth 25 = false := by kernel_rfl
theorem op_neq (k i o n k' i' o' n' : Int) (W : World) : (binOp .neq 23 (.agg #[.int .i64 k, .int .i64 i, .int .i64 o, .int .i64 n]) (.agg #[.int .i64 k', .int .i64 i', .int .i64 o', .int .i64 n'])).run Tryd.prog W = .ok (.bool (!(k == k' && i == i' && o == o' && n == n'))) W := by
  have u3 := Tryd.underlying3
  have a3 : (isAgg 3).run Tryd.prog W = .ok false W := by kernel_rfl
  have hS : Tryd.prog.underlying 23 = some (.struct (Tryd.prog.fieldsOf 23)) := by kernel_rfl
  have hp : Tryd.prog.stoodInHeld 23 = false := by kernel_rfl
  rw [run_neq_struct, show (10000 : Nat) = 9999 + 1 from rfl, run_equalIn_agg W 9999 23 _ _ hS hp]
  simp only [Program.fieldsOf, Tryd.underlying23]
  go_simp
  cases h1 : k == k' <;> cases h2 : i == i' <;> cases h3 : o == o' <;> cases h4 : n == n' <;> simp_all
theorem conf_eql (k i o n k' i' o' n' : Int) (W : World) : (binOp .eql 25 (.agg #[.int .i64 k, .int .i64 i, .int .i64 o, .int .i64 n]) (.agg #[.int .i64 k', .int .i64 i', .int .i64 o', .int .i64 n'])).run Tryd.prog W = .ok (.bool (k == k' && i == i' && o == o' && n == n')) W := by
  have u3 := Tryd.underlying3
  have a3 : (isAgg 3).run Tryd.prog W = .ok false W := by kernel_rfl
  have hS : Tryd.prog.underlying 25 = some (.struct (Tryd.prog.fieldsOf 25)) := by kernel_rfl
  have hp : Tryd.prog.stoodInHeld 25 = false := by kernel_rfl
  rw [run_eql_struct, show (10000 : Nat) = 9999 + 1 from rfl, run_equalIn_agg W 9999 25 _ _ hS hp]
  simp only [Program.fieldsOf, Tryd.underlying25]
  go_simp
  cases h1 : k == k' <;> cases h2 : i == i' <;> cases h3 : o == o' <;> cases h4 : n == n' <;> simp_all
/-- Rows of numbers. -/
def EqAt (w : World) (xs ys : List Int) (x : Value) (wr : World) : Prop := ∃ n : Nat, n ≤ xs.length ∧ x = .int .i64 n ∧ Fr [] w wr ∧ ∀ i, i < n → xs.getD i 0 = ys.getD i 0
theorem ne_of_getD {α : Type} [DecidableEq α] {xs ys : List α} {d : α} {i : Nat} (h : xs.getD i d ≠ ys.getD i d) : decide (xs = ys) = false := by
  apply decide_eq_false; intro e; exact h (by rw [e])
theorem eq_of_getD {α : Type} [DecidableEq α] {xs ys : List α} {d : α} (hl : xs.length = ys.length) (h : ∀ i, i < xs.length → xs.getD i d = ys.getD i d) : decide (xs = ys) = true := by
  apply decide_eq_true
  apply List.ext_getElem hl
  intro i h1 h2
  have := h i h1
  simpa [List.getD_eq_getElem?_getD, h1, h2] using this
theorem ne_of_len {α : Type} [DecidableEq α] {xs ys : List α} (h : xs.length ≠ ys.length) : decide (xs = ys) = false := by
  apply decide_eq_false; intro e; exact h (by rw [e])
set_option maxHeartbeats 3200000 in
theorem eqInts_any (xs ys : List Int) (u v : Value) (w : World) (hx : Law.Ints w .i64 u xs) (hy : Law.Ints w .i64 v ys) : Calls Tryd.prog 31 #[u, v] w fun e w' => e = .returned (.bool (decide (xs = ys))) ∧ Fr [] w w' := by
  obtain ⟨a, cap, rfl, hl, -, hc⟩ := hx
  obtain ⟨a2, cap2, rfl, hl2, -, hc2⟩ := hy
  have HC := Lib.hid hc
  have HC2 := Lib.hid hc2
  clear hc hc2
  unfold maxLen at hl hl2
  go_enter Tryd.func31, Tryd.ntmps31
  by_cases hll : xs.length = ys.length
  · have hll' : (xs.length : Int) = ys.length := by omega
    have g : ((xs.length : Int) != ys.length) = false := by simp [hll]
    go_wp2_with fail
    go_loopw [13] (EqAt w xs ys) (fun x _ => xs.length - (intOf x).toNat)
    case atStart => exact ⟨0, Nat.zero_le _, rfl, Fr.refl _ _, by omega⟩
    case round =>
      obtain ⟨n, hn, rfl, Fw, hi⟩ := hrel
      by_cases hlt : n < xs.length
      · rcases HC.out with hz | ⟨b, off, rfl, hb, hcell⟩
        · omega
        rcases HC2.out with hz | ⟨b2, off2, rfl, hb2, hcell2⟩
        · omega
        have hlt2 : n < ys.length := by omega
        have k0 := In.cell (cell_up Fw (hcell n hlt))
        have k1 := In.cell (cell_up Fw (hcell2 n hlt2))
        have ex : xs.getD n 0 = xs[n] := by simp [List.getD_eq_getElem?_getD, hlt]
        have ey : ys.getD n 0 = ys[n] := by simp [List.getD_eq_getElem?_getD, hlt2]
        clear hcell hcell2
        go_wp2_with fail
        refine wp_region_in (by kernel_rfl) (by kernel_rfl) ?_
        repeat (go_big_quiet_step (fail))
        refine wpQuiet_nil ?_
        intro w1 F1
        clear k0 k1
        cases hg : (xs[n] != ys[n]) with
        | true =>
          go_wp2
          go_ret
          exact ⟨by rw [ne_of_getD (d := 0) (i := n) (by rw [ex, ey]; simpa using hg)]; rfl, Fw.trans F1⟩
        | false =>
          go_wp2
          go_roundw
          case rel =>
            refine ⟨n + 1, by omega, by go_num, Fw.trans F1, fun i hi' => ?_⟩
            by_cases hin : i = n
            · rw [hin, ex, ey]; simpa using hg
            · exact hi i (by omega)
          case measure => simp [intOf]; omega
      · obtain rfl : n = xs.length := by omega
        go_wp2
        go_ret
        exact ⟨by rw [eq_of_getD hll hi]; rfl, Fw⟩
  · go_wp2
    go_ret
    exact ⟨by rw [ne_of_len hll]; rfl, Fr.refl _ _⟩
/-- Rows of ops. -/
def EqOAt (w : World) (xs ys : List O) (x : Value) (wr : World) : Prop := ∃ n : Nat, n ≤ xs.length ∧ x = .int .i64 n ∧ Fr [] w wr ∧ ∀ i, i < n → xs.getD i (0, 0, 0, 0) = ys.getD i (0, 0, 0, 0)
theorem o_ne (x y : O) : (!(x.1 == y.1 && x.2.1 == y.2.1 && x.2.2.1 == y.2.2.1 && x.2.2.2 == y.2.2.2)) = decide (x ≠ y) := by
  obtain ⟨a, b, c, d⟩ := x
  obtain ⟨a', b', c', d'⟩ := y
  by_cases h1 : a = a' <;> by_cases h2 : b = b' <;> by_cases h3 : c = c' <;> by_cases h4 : d = d' <;> simp [h1, h2, h3, h4]
set_option maxHeartbeats 3200000 in
theorem eqOps_any (xs ys : List O) (u v : Value) (w : World) (hx : OpRow w u xs) (hy : OpRow w v ys) : Calls Tryd.prog 44 #[u, v] w fun e w' => e = .returned (.bool (decide (xs = ys))) ∧ Fr [] w w' := by
  obtain ⟨a, cap, rfl, hl, -, hc⟩ := hx
  obtain ⟨a2, cap2, rfl, hl2, -, hc2⟩ := hy
  have HC := Lib.hid hc
  have HC2 := Lib.hid hc2
  clear hc hc2
  unfold maxLen at hl hl2
  have hG := opGuard
  go_enter Tryd.func44, Tryd.ntmps44
  by_cases hll : xs.length = ys.length
  · have hll' : (xs.length : Int) = ys.length := by omega
    have g : ((xs.length : Int) != ys.length) = false := by simp [hll]
    go_wp2_with fail
    go_loopw [13] (EqOAt w xs ys) (fun x _ => xs.length - (intOf x).toNat)
    case atStart => exact ⟨0, Nat.zero_le _, rfl, Fr.refl _ _, by omega⟩
    case round =>
      obtain ⟨n, hn, rfl, Fw, hi⟩ := hrel
      by_cases hlt : n < xs.length
      · rcases HC.out with hz | ⟨b, off, rfl, hb, hcell⟩
        · omega
        rcases HC2.out with hz | ⟨b2, off2, rfl, hb2, hcell2⟩
        · omega
        have hlt2 : n < ys.length := by omega
        obtain ⟨c0, c1, c2, c3⟩ := hcell n hlt
        obtain ⟨d0, d1, d2, d3⟩ := hcell2 n hlt2
        have k0 := In.cell (cell_up Fw c0)
        have k1 := In.cell (cell_up Fw c1)
        have k2 := In.cell (cell_up Fw c2)
        have k3 := In.cell (cell_up Fw c3)
        have l0 := In.cell (cell_up Fw d0)
        have l1 := In.cell (cell_up Fw d1)
        have l2 := In.cell (cell_up Fw d2)
        have l3 := In.cell (cell_up Fw d3)
        have hne := op_neq (nthO xs n).1 (nthO xs n).2.1 (nthO xs n).2.2.1 (nthO xs n).2.2.2 (nthO ys n).1 (nthO ys n).2.1 (nthO ys n).2.2.1 (nthO ys n).2.2.2
        rw [o_ne] at hne
        obtain ⟨q, hg⟩ : ∃ q, decide (nthO xs n ≠ nthO ys n) = q := ⟨_, rfl⟩
        rw [hg] at hne
        clear hcell hcell2 c0 c1 c2 c3 d0 d1 d2 d3
        go_wp2_with fail
        refine wp_region_in (by kernel_rfl) (by kernel_rfl) ?_
        repeat (go_big_quiet_step (fail))
        refine wpQuiet_nil ?_
        intro w1 F1
        clear k0 k1 k2 k3 l0 l1 l2 l3 hne hG
        cases q with
        | true =>
          go_wp2
          go_ret
          exact ⟨by rw [ne_of_getD (d := (0, 0, 0, 0)) (i := n) (of_decide_eq_true hg)]; rfl, Fw.trans F1⟩
        | false =>
          go_wp2
          go_roundw
          case rel =>
            refine ⟨n + 1, by omega, by go_num, Fw.trans F1, fun i hi' => ?_⟩
            by_cases hin : i = n
            · rw [hin]; simpa [nthO] using hg
            · exact hi i (by omega)
          case measure => simp [intOf]; omega
      · obtain rfl : n = xs.length := by omega
        go_wp2
        go_ret
        exact ⟨by rw [eq_of_getD hll hi]; rfl, Fw⟩
  · clear hG
    go_wp2
    go_ret
    exact ⟨by rw [ne_of_len hll]; rfl, Fr.refl _ _⟩
theorem sameRow_any (xs ys : List O) (u v : Value) (w : World) (hx : OpRow w u xs) (hy : OpRow w v ys) : Calls Tryd.prog 30 #[u, v] w fun e w' => e = .returned (.bool (decide (xs = ys))) ∧ Fr [] w w' := by
  go_enter Tryd.func30, Tryd.ntmps30
  go_wp2_with fail
  refine (eqOps_any xs ys u v _ hx hy).mono ?_; rintro e w' ⟨rfl, F⟩
  go_wp2
  go_ret
  exact ⟨rfl, F⟩
/-- Rows of rows. -/
def EqRAt (w : World) (xs ys : List (List O)) (x : Value) (wr : World) : Prop := ∃ n : Nat, n ≤ xs.length ∧ x = .int .i64 n ∧ Fr [] w wr ∧ ∀ i, i < n → xs.getD i [] = ys.getD i []
set_option maxHeartbeats 3200000 in
theorem eqRows_any (xs ys : List (List O)) (u v : Value) (w : World) (hx : OpRows w u xs) (hy : OpRows w v ys) : Calls Tryd.prog 29 #[u, v, .func (.func 30) #[] #[]] w fun e w' => e = .returned (.bool (decide (xs = ys))) ∧ Fr [] w w' := by
  obtain ⟨a, cap, x, rfl, hl, hc, hr⟩ := hx
  obtain ⟨a2, cap2, x2, rfl, hl2, hc2, hr2⟩ := hy
  have HC := Lib.hid hc
  have HC2 := Lib.hid hc2
  have HR := Lib.hid hr
  have HR2 := Lib.hid hr2
  clear hc hc2 hr hr2
  unfold maxLen at hl hl2
  go_enter Tryd.func29, Tryd.ntmps29
  by_cases hll : xs.length = ys.length
  · have hll' : (xs.length : Int) = ys.length := by omega
    have g : ((xs.length : Int) != ys.length) = false := by simp [hll]
    have HL := Lib.hid hll
    clear hll hll'
    go_wp2_with fail
    go_loopw [17] (EqRAt w xs ys) (fun x _ => xs.length - (intOf x).toNat)
    case atStart => exact ⟨0, Nat.zero_le _, rfl, Fr.refl _ _, by omega⟩
    case round =>
      obtain ⟨n, hn, rfl, Fw, hi⟩ := hrel
      by_cases hlt : n < xs.length
      · rcases HC.out with hz | ⟨b, off, rfl, hb, hcell⟩
        · omega
        rcases HC2.out with hz | ⟨b2, off2, rfl, hb2, hcell2⟩
        · have := HL.out; omega
        have hlt2 : n < ys.length := by have := HL.out; omega
        have k0 := cell_up Fw (hcell n hlt)
        have k1 := cell_up Fw (hcell2 n hlt2)
        have hrow := (HR.out n hlt).up Fw
        have hrow2 := (HR2.out n hlt2).up Fw
        clear hcell hcell2 HC HC2
        go_wp2_with fail
        refine (sameRow_any _ _ _ _ _ hrow hrow2).mono ?_; rintro e w1 ⟨rfl, F1⟩
        cases hg : decide (nthR xs n = nthR ys n) with
        | false =>
          go_wp2
          go_ret
          exact ⟨by rw [ne_of_getD (d := []) (i := n) (of_decide_eq_false hg)]; rfl, Fw.trans F1⟩
        | true =>
          go_wp2
          go_roundw
          case rel =>
            refine ⟨n + 1, by omega, by go_num, Fw.trans F1, fun i hi' => ?_⟩
            by_cases hin : i = n
            · rw [hin]; exact of_decide_eq_true hg
            · exact hi i (by omega)
          case measure => simp [intOf]; omega
      · obtain rfl : n = xs.length := by omega
        go_wp2
        go_ret
        exact ⟨by rw [eq_of_getD HL.out hi]; rfl, Fw⟩
  · go_wp2
    go_ret
    exact ⟨by rw [ne_of_len hll]; rfl, Fr.refl _ _⟩
end Go.Proofs.YtedenkghacbdeaaDoor.Og
