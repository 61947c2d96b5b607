/- Whether two rows of items, of ints are the same. -/
import Derived.Test.YteahponbknljlaaKeep8
import Derived.Test.YteahponbknljlaaFrame
namespace Go.Proofs.Yteahponbknljlaa.Kp
open Go.RowKit Go.Proofs.Yteahponbknljlaa.Ar Go.Proofs.Yteahponbknljlaa.Mx
set_option linter.unusedVariables false
set_option linter.unusedSimpArgs false
theorem itGuard : Try.prog.eqGuardType Try.prog.depth 26 = false := by kernel_rfl
theorem it_eql (k i o k' i' o' : Int) (W : World) : (binOp .eql 26 (.agg #[.int .i64 k, .int .i64 i, .int .i64 o]) (.agg #[.int .i64 k', .int .i64 i', .int .i64 o'])).run Try.prog W = .ok (.bool (k == k' && i == i' && o == o')) W := by
  have u3 := Try.underlying3
  have a3 : (isAgg 3).run Try.prog W = .ok false W := by kernel_rfl
  have hS : Try.prog.underlying 26 = some (.struct (Try.prog.fieldsOf 26)) := by kernel_rfl
  have hp : Try.prog.stoodInHeld 26 = false := by kernel_rfl
  rw [run_eql_struct, show (10000 : Nat) = 9999 + 1 from rfl, run_equalIn_agg W 9999 26 _ _ hS hp]
  simp only [Program.fieldsOf, Try.underlying26]
  go_simp
  cases h1 : k == k' <;> cases h2 : i == i' <;> cases h3 : o == o' <;> simp_all
theorem take_more {α : Type} {xs ys : List α} {n : Nat} {x y : α} (h : xs.take n = ys.take n) (hx : xs[n]? = some x) (hy : ys[n]? = some y) (e : x = y) : xs.take (n + 1) = ys.take (n + 1) := by
  rw [List.take_add_one, List.take_add_one, h, hx, hy, e]
theorem take_less {α : Type} [DecidableEq α] {xs ys : List α} {n : Nat} {x y : α} (hx : xs[n]? = some x) (hy : ys[n]? = some y) (e : x ≠ y) : decide (xs = ys) = false := by
  apply decide_eq_false; rintro rfl; rw [hx] at hy; exact e (Option.some.inj hy)
theorem it_neq (x y : It) (W : World) : (binOp .neq 26 (.agg #[.int .i64 x.k, .int .i64 x.v, .int .i64 x.d]) (.agg #[.int .i64 y.k, .int .i64 y.v, .int .i64 y.d])).run Try.prog W = .ok (.bool (decide (x ≠ y))) W := by
  obtain ⟨k, i, o⟩ := x
  obtain ⟨k', i', o'⟩ := y
  have u3 := Try.underlying3
  have a3 : (isAgg 3).run Try.prog W = .ok false W := by kernel_rfl
  have hS : Try.prog.underlying 26 = some (.struct (Try.prog.fieldsOf 26)) := by kernel_rfl
  have hp : Try.prog.stoodInHeld 26 = false := by kernel_rfl
  rw [run_neq_struct, show (10000 : Nat) = 9999 + 1 from rfl, run_equalIn_agg W 9999 26 _ _ hS hp]
  simp only [Program.fieldsOf, Try.underlying26]
  go_simp
  by_cases h1 : k = k' <;> by_cases h2 : i = i' <;> by_cases h3 : o = o' <;> simp [h1, h2, h3]
def EqIAt (w : World) (xs ys : List It) (x : Value) (wr : World) : Prop := ∃ n : Nat, n ≤ xs.length ∧ x = .int .i64 n ∧ Fr [] w wr ∧ xs.take n = ys.take n
set_option maxHeartbeats 3200000 in
theorem sameItems_any (xs ys : List It) (u v : Value) (w : World) (hl : xs.length ≤ 1000000) (hl2 : ys.length ≤ 1000000) (hx : Sq fT w u xs) (hy : Sq fT w v ys) : Calls Try.prog 12 #[u, v] w fun e w' => e = .returned (.bool (decide (xs = ys))) ∧ Fr [] w w' := by
  obtain ⟨a, cap, rfl, -, hm, -⟩ := id hx
  obtain ⟨a2, cap2, rfl, -, hm2, -⟩ := id hy
  have hG := itGuard
  go_enter Try.func12, Try.ntmps12
  by_cases hll : xs.length = ys.length
  · have hll' : (xs.length : Int) = ys.length := by omega
    have g : ((xs.length : Int) != ys.length) = false := by simp [hll]
    go_wp2_with fail
    clear hll'
    have HL := Lib.hid hll
    clear hll g
    go_loopw [5] (EqIAt w xs ys) (fun x _ => xs.length - (intOf x).toNat)
    case atStart => exact ⟨0, Nat.zero_le _, rfl, Fr.refl _ _, rfl⟩
    case round =>
      obtain ⟨n, hn, rfl, Fw, hi⟩ := hrel
      by_cases hlt : n < xs.length
      · have hlt2 : n < ys.length := by have := HL.out; omega
        obtain ⟨x, hxn⟩ : ∃ x, xs[n]? = some x := ⟨xs[n], List.getElem?_eq_getElem hlt⟩
        obtain ⟨y, hyn⟩ : ∃ y, ys[n]? = some y := ⟨ys[n], List.getElem?_eq_getElem hlt2⟩
        obtain ⟨b, off, rfl, c0, c1, c2⟩ := it_cells (hx.up Fw) hxn
        obtain ⟨b2, off2, rfl, d0, d1, d2⟩ := it_cells (hy.up Fw) hyn
        have k0 := In.cell c0
        have k1 := In.cell c1
        have k2 := In.cell c2
        have l0 := In.cell d0
        have l1 := In.cell d1
        have l2 := In.cell d2
        have hne := it_neq x y
        obtain ⟨q, hg⟩ : ∃ q, decide (x ≠ y) = q := ⟨_, rfl⟩
        rw [hg] at hne
        have HG := Lib.hid hg
        have HX := Lib.hid hxn
        have HY := Lib.hid hyn
        have HI := Lib.hid hi
        clear c0 c1 c2 d0 d1 d2 hg hxn hyn hi
        go_wp2_with fail
        refine wp_region_in (by kernel_rfl) (by kernel_rfl) ?_
        repeat (go_big_quiet_step (fail))
        refine wpQuiet_nil ?_
        intro w1 F1
        clear k0 k1 k2 l0 l1 l2 hne hG
        cases q with
        | true =>
          go_wp2
          go_ret
          exact ⟨by rw [take_less HX.out HY.out (of_decide_eq_true HG.out)]; rfl, Fw.trans F1⟩
        | false =>
          go_wp2
          go_roundw
          case rel => exact ⟨n + 1, by omega, by go_num, Fw.trans F1, take_more HI.out HX.out HY.out (by have := HG.out; simpa using this)⟩
          case measure => simp [intOf]; omega
      · obtain rfl : n = xs.length := by omega
        have HI := Lib.hid hi
        clear hi
        go_wp2
        go_ret
        exact ⟨by
          have := HI.out
          rw [List.take_length, HL.out, List.take_length] at this
          rw [decide_eq_true this]; rfl, Fw⟩
  · have g : ((xs.length : Int) != ys.length) = true := by simp; omega
    go_wp2
    go_ret
    exact ⟨by rw [decide_eq_false (fun e => hll (by rw [e]))]; rfl, Fr.refl _ _⟩
def EqZAt (w : World) (xs ys : List Int) (x : Value) (wr : World) : Prop := ∃ n : Nat, n ≤ xs.length ∧ x = .int .i64 n ∧ Fr [] w wr ∧ xs.take n = ys.take n
set_option maxHeartbeats 3200000 in
theorem sameI_any (xs ys : List Int) (u v : Value) (w : World) (hl : xs.length ≤ 1000000) (hl2 : ys.length ≤ 1000000) (hx : Sq fI w u xs) (hy : Sq fI w v ys) : Calls Try.prog 17 #[u, v] w fun e w' => e = .returned (.bool (decide (xs = ys))) ∧ Fr [] w w' := by
  obtain ⟨a, cap, rfl, -, hm, -⟩ := id hx
  obtain ⟨a2, cap2, rfl, -, hm2, -⟩ := id hy
  go_enter Try.func17, Try.ntmps17
  by_cases hll : xs.length = ys.length
  · have hll' : (xs.length : Int) = ys.length := by omega
    have g : ((xs.length : Int) != ys.length) = false := by simp [hll]
    go_wp2_with fail
    clear hll'
    have HL := Lib.hid hll
    clear hll g
    go_loopw [5] (EqZAt w xs ys) (fun x _ => xs.length - (intOf x).toNat)
    case atStart => exact ⟨0, Nat.zero_le _, rfl, Fr.refl _ _, rfl⟩
    case round =>
      obtain ⟨n, hn, rfl, Fw, hi⟩ := hrel
      by_cases hlt : n < xs.length
      · have hlt2 : n < ys.length := by have := HL.out; omega
        obtain ⟨x, hxn⟩ : ∃ x, xs[n]? = some x := ⟨xs[n], List.getElem?_eq_getElem hlt⟩
        obtain ⟨y, hyn⟩ : ∃ y, ys[n]? = some y := ⟨ys[n], List.getElem?_eq_getElem hlt2⟩
        obtain ⟨b, off, rfl, c0⟩ := int_cell (hx.up Fw) hxn
        obtain ⟨b2, off2, rfl, d0⟩ := int_cell (hy.up Fw) hyn
        have k0 := In.cell c0
        have l0 := In.cell d0
        obtain ⟨q, hg⟩ : ∃ q, decide (x ≠ y) = q := ⟨_, rfl⟩
        have hne : (x != y) = q := by rw [← hg]; cases hxy : (x != y) <;> simp_all
        have HG := Lib.hid hg
        have HX := Lib.hid hxn
        have HY := Lib.hid hyn
        have HI := Lib.hid hi
        clear c0 d0 hg hxn hyn hi
        go_wp2_with fail
        refine wp_region_in (by kernel_rfl) (by kernel_rfl) ?_
        repeat (go_big_quiet_step (fail))
        refine wpQuiet_nil ?_
        intro w1 F1
        clear k0 l0 hne
        cases q with
        | true =>
          go_wp2
          go_ret
          exact ⟨by rw [take_less HX.out HY.out (of_decide_eq_true HG.out)]; rfl, Fw.trans F1⟩
        | false =>
          go_wp2
          go_roundw
          case rel => exact ⟨n + 1, by omega, by go_num, Fw.trans F1, take_more HI.out HX.out HY.out (by have := HG.out; simpa using this)⟩
          case measure => simp [intOf]; omega
      · obtain rfl : n = xs.length := by omega
        have HI := Lib.hid hi
        clear hi
        go_wp2
        go_ret
        exact ⟨by
          have := HI.out
          rw [List.take_length, HL.out, List.take_length] at this
          rw [decide_eq_true this]; rfl, Fw⟩
  · have g : ((xs.length : Int) != ys.length) = true := by simp; omega
    go_wp2
    go_ret
    exact ⟨by rw [decide_eq_false (fun e => hll (by rw [e]))]; rfl, Fr.refl _ _⟩
end Go.Proofs.Yteahponbknljlaa.Kp
