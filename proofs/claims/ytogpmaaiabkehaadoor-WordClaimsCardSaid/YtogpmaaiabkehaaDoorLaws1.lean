/- The walks of the five statements of layer 1: each returns true whatever its arguments, in any world in which the table of bounds holds what it is laid with. -/
import Derived.Test.YtogpmaaiabkehaaDoorWordIn
import Derived.Test.YtogpmaaiabkehaaDoorKnown1
import Derived.Lib.QuoteBits
namespace Go.Proofs.YtogpmaaiabkehaaDoor.Word
open Go.RowKit
theorem or1 (x : Int) (h0 : 0 ≤ x) (h1 : x ≤ 1073741824) : bits .or .i64 (x * 2) 1 = x * 2 + 1 := by
  obtain ⟨n, rfl⟩ := Int.eq_ofNat_of_zero_le h0
  have := Lib.or_one (n * 2) (by omega)
  rw [show ((n : Int) * 2) = ((n * 2 : Nat) : Int) by omega, this]
  omega
set_option maxHeartbeats 1000000 in
theorem marks_true (a : Int) (w : World) (t : Tab w) (h0 : 0 ≤ a) (h1 : a < 4294967296) : Calls Tryd.prog 4 #[.int .u32 a] w fun e w' => e = .returned (.bool true) ∧ Dr w w' := by
  have hor := or1 (a % 1073741824) (by omega) (by omega)
  have hz : ((a % 1073741824 * 2 == 0) == (a % 1073741824 == 0)) = true := by rw [beq_iff_eq, Bool.eq_iff_iff, beq_iff_eq, beq_iff_eq]; omega
  go_enter Tryd.func4, Tryd.ntmps4
  go_wp2_with fail
  refine (known_true _ t).mono ?_; rintro e w' ⟨rfl, m, rfl⟩
  go_wp2_with (first | (go_at_call 9; (with_reducible refine (next_f _ _ ?_ ?_ ?_).mono ?_); (exact t); omega; omega; rintro e w' ⟨rfl, m, rfl⟩) | (go_at_call 9; (with_reducible refine (next_t _ _ ?_ ?_ ?_).mono ?_); (exact t); omega; omega; rintro e w' ⟨rfl, m, rfl⟩) | (go_at_call 12; refine (at_in _ _ (by omega) (by omega)).mono ?_; rintro e w' ⟨rfl, rfl⟩) | (go_at_call 13; refine (marked_t _ _ (by omega)).mono ?_; rintro e w' ⟨rfl, rfl⟩))
  go_ret
  exact ⟨rfl, _, rfl⟩
set_option maxHeartbeats 1000000 in
theorem states_true (a b : Int) (w : World) (t : Tab w) (h0 : 0 ≤ a) (h1 : a < 4294967296) (g0 : 0 ≤ b) (g1 : b < 4294967296) : Calls Tryd.prog 5 #[.int .u32 a, .int .u32 b] w fun e w' => e = .returned (.bool true) ∧ Dr w w' := by
  go_enter Tryd.func5, Tryd.ntmps5
  go_wp2_with fail
  refine (known_true _ t).mono ?_; rintro e w' ⟨rfl, m, rfl⟩
  go_wp2_with (first | (go_at_call 15; refine (state_in _ _ (by exact t) (by omega) (by omega)).mono ?_; rintro e w' ⟨rfl, m, rfl⟩) | (go_at_call 14; refine (version_no _ _ (by decide)).mono ?_; rintro e w' ⟨rfl, rfl⟩))
  go_ret
  exact ⟨rfl, _, rfl⟩
set_option maxHeartbeats 2000000 in
theorem back_true (a b c d x y : Int) (mk : Bool) (w : World) (t : Tab w) (h0 : 0 ≤ a ∧ a < 4294967296) (h1 : 0 ≤ b ∧ b < 4294967296) (h2 : 0 ≤ c ∧ c < 4294967296) (h3 : 0 ≤ d ∧ d < 4294967296) (h4 : 0 ≤ x ∧ x < 4294967296) (h5 : 0 ≤ y ∧ y < 4294967296) :
    Calls Tryd.prog 3 #[.int .u32 a, .int .u32 b, .int .u32 c, .int .u32 d, .int .u32 x, .int .u32 y, .bool mk] w fun e w' => e = .returned (.bool true) ∧ Dr w w' := by
  obtain ⟨a0, a1⟩ := h0; obtain ⟨b0, b1⟩ := h1; obtain ⟨c0, c1⟩ := h2; obtain ⟨d0, d1⟩ := h3; obtain ⟨x0, x1⟩ := h4; obtain ⟨y0, y1⟩ := h5
  cases mk
  all_goals
    go_enter Tryd.func3, Tryd.ntmps3
    go_wp2_with fail
    refine (known_true _ t).mono ?_; rintro e w' ⟨rfl, m, rfl⟩
    go_wp2_with (first | (go_at_call 9; (with_reducible refine (next_f _ _ ?_ ?_ ?_).mono ?_); (exact t); omega; omega; rintro e w' ⟨rfl, m, rfl⟩) | (go_at_call 9; (with_reducible refine (next_t _ _ ?_ ?_ ?_).mono ?_); (exact t); omega; omega; rintro e w' ⟨rfl, m, rfl⟩) | (go_at_call 12; refine (at_in _ _ (by omega) (by omega)).mono ?_; rintro e w' ⟨rfl, rfl⟩) | (go_at_call 13; refine (marked_t _ _ ?_).mono ?_; omega; rintro e w' ⟨rfl, rfl⟩) | (go_at_call 13; refine (marked_f _ _ ?_).mono ?_; omega; rintro e w' ⟨rfl, rfl⟩) | (go_at_call 10; refine (claim_in _ _ _ (by exact t) (by omega) (by omega) (by omega) (by omega)).mono ?_; rintro e w' ⟨rfl, m, rfl⟩) | (go_at_call 11; refine (data_in _ _ _ (by exact t) (by omega) (by omega) (by omega) (by omega)).mono ?_; rintro e w' ⟨rfl, m, rfl⟩) | (go_at_call 15; refine (state_in _ _ (by exact t) (by omega) (by omega)).mono ?_; rintro e w' ⟨rfl, m, rfl⟩) | (go_at_call 14; refine (version_in _ _ (by omega) (by omega)).mono ?_; rintro e w' ⟨rfl, rfl⟩) | (go_at_call 16; refine (seq_in _ _ (by omega) (by omega)).mono ?_; rintro e w' ⟨rfl, rfl⟩) | (go_at_call 18; refine (writer_in _ _ (by omega) (by omega)).mono ?_; rintro e w' ⟨rfl, rfl⟩) | (go_at_call 17; refine (part_any _ _).mono ?_; rintro e w' ⟨rfl, rfl⟩) | (go_at_call 19; refine (val_any _ _).mono ?_; rintro e w' ⟨rfl, rfl⟩))
    go_ret
    refine ⟨congrArg (fun z => Ending.returned (.bool z)) (?_ : (y % 1048578 % 2097152 - 1 == y % 1048578 - 1) = true), _, rfl⟩
    rw [beq_iff_eq]; omega
theorem bne_t {a b : Int} (h : a ≠ b) : (a != b) = true := by simpa using h
theorem beq_f {a b : Int} (h : a ≠ b) : (a == b) = false := by simpa using h
theorem beq_same {a b c d : Int} (h : a = b ↔ c = d) : (a == b) = (c == d) := by rw [Bool.eq_iff_iff]; simpa using h
set_option maxHeartbeats 2000000 in
theorem claims_true (a b c : Int) (w : World) (t : Tab w) (h0 : 0 ≤ a ∧ a < 4294967296) (h1 : 0 ≤ b ∧ b < 4294967296) (h2 : 0 ≤ c ∧ c < 4294967296) :
    Calls Tryd.prog 6 #[.int .u32 a, .int .u32 b, .int .u32 c] w fun e w' => e = .returned (.bool true) ∧ Dr w w' := by
  obtain ⟨a0, a1⟩ := h0; obtain ⟨b0, b1⟩ := h1; obtain ⟨c0, c1⟩ := h2
  have e1 : ((a % 1073741822 + 1) * 16777216 + (b % 8388608 + 2) != (a % 1073741822 + 1) * 16777216 + 1) = true := bne_t (by omega)
  have e2 : ((a % 1073741822 + 1) * 16777216 + (b % 8388608 + 2) != (a % 1073741822 + 1) * 16777216) = true := bne_t (by omega)
  have e3 : ((a % 1073741822 + 1) * 16777216 + (b % 8388608 + 2) == (a % 1073741822 + 1) * 16777216 + (c % 8388608 + 2)) = (b % 8388608 == c % 8388608) := beq_same (by omega)
  have e4 : ((a % 1073741822 + 1) * 16777216 + (b % 8388608 + 2) != a % 1073741822 * 16777216 + (b % 8388608 + 2)) = true := bne_t (by omega)
  go_enter Tryd.func6, Tryd.ntmps6
  go_wp2_with fail
  refine (known_true _ t).mono ?_; rintro e w' ⟨rfl, m, rfl⟩
  go_wp2_with (go_at_call 10; refine (claim_in _ _ _ (by exact t) (by omega) (by omega) (by omega) (by omega)).mono ?_; rintro e w' ⟨rfl, m, rfl⟩)
  go_ret
  exact ⟨rfl, _, rfl⟩
set_option maxHeartbeats 2000000 in
theorem datas_true (a b x y : Int) (w : World) (t : Tab w) (h0 : 0 ≤ a ∧ a < 4294967296) (h1 : 0 ≤ b ∧ b < 4294967296) (h2 : 0 ≤ x ∧ x < 4294967296) (h3 : 0 ≤ y ∧ y < 4294967296) :
    Calls Tryd.prog 7 #[.int .u32 a, .int .u32 b, .int .u32 x, .int .u32 y] w fun e w' => e = .returned (.bool true) ∧ Dr w w' := by
  obtain ⟨a0, a1⟩ := h0; obtain ⟨b0, b1⟩ := h1; obtain ⟨c0, c1⟩ := h2; obtain ⟨d0, d1⟩ := h3
  have e1 : dataI (a % 1048576) 1048581 = a % 1048576 * 2097152 + 1048577 := by unfold dataI; rw [heldI_in (by omega) (by omega), heldI_hi (by decide) (by decide)]; omega
  have e2 : dataI (-3) (x % 1048577) = x % 1048577 + 1 := by unfold dataI; rw [heldI_lo (by decide) (by decide), heldI_in (by omega) (by omega)]; omega
  have e3 : (a % 1048576 * 2097152 != a % 1048576 * 2097152 + (x % 1048577 + 1)) = true := bne_t (by omega)
  have s1 : (((a % 1048576 * 2097152 + (x % 1048577 + 1) == b % 1048576 * 2097152 + (y % 1048577 + 1)) : Bool) = (a % 1048576 == b % 1048576 && x % 1048577 == y % 1048577)) := by
    rw [Bool.eq_iff_iff]; simp only [beq_iff_eq, Bool.and_eq_true]; omega
  by_cases hp : a % 1048576 = b % 1048576
  · have hb : (a % 1048576 == b % 1048576) = true := by simpa using hp
    rw [hb, Bool.true_and] at s1
    clear hp
    go_enter Tryd.func7, Tryd.ntmps7
    go_wp2_with fail
    refine (known_true _ t).mono ?_; rintro e w' ⟨rfl, m, rfl⟩
    go_wp2_with (first | (go_at_call 11; (with_reducible refine (data_in _ _ _ ?_ ?_ ?_ ?_ ?_).mono ?_); (exact t); omega; omega; omega; omega; rintro e w' ⟨rfl, m, rfl⟩) | (go_at_call 11; refine (data_any _ _ _ (by exact t)).mono ?_; rintro e w' ⟨rfl, m, rfl⟩) | (go_at_call 18; refine (writer_in _ _ (by omega) (by omega)).mono ?_; rintro e w' ⟨rfl, rfl⟩) | (go_at_call 19; refine (val_any _ _).mono ?_; rintro e w' ⟨rfl, rfl⟩))
    go_ret
    exact ⟨rfl, _, rfl⟩
  · have hb : (a % 1048576 == b % 1048576) = false := beq_f hp
    rw [hb, Bool.false_and] at s1
    go_enter Tryd.func7, Tryd.ntmps7
    go_wp2_with fail
    refine (known_true _ t).mono ?_; rintro e w' ⟨rfl, m, rfl⟩
    go_wp2_with (first | (go_at_call 11; (with_reducible refine (data_in _ _ _ ?_ ?_ ?_ ?_ ?_).mono ?_); (exact t); omega; omega; omega; omega; rintro e w' ⟨rfl, m, rfl⟩) | (go_at_call 11; refine (data_any _ _ _ (by exact t)).mono ?_; rintro e w' ⟨rfl, m, rfl⟩) | (go_at_call 18; refine (writer_in _ _ (by omega) (by omega)).mono ?_; rintro e w' ⟨rfl, rfl⟩) | (go_at_call 19; refine (val_any _ _).mono ?_; rintro e w' ⟨rfl, rfl⟩))
    go_ret
    exact ⟨rfl, _, rfl⟩
end Go.Proofs.YtogpmaaiabkehaaDoor.Word
