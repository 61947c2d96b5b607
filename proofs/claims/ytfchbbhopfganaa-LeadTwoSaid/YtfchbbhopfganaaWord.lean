/- What each function of package word answers, whatever its arguments (a contract each), in any world in which the table of bounds holds what it is laid with. No condition on the arguments but what each theorem names. -/
import Derived.Test.YtfchbbhopfganaaRows
import Derived.WalkKit
import Derived.WalkLawsBesides
import Derived.Deep.QuietTactic
import Derived.BigQuiet
import Derived.Handy
import Derived.Lib.Hide
namespace Go.Proofs.Ytfchbbhopfganaa.Word
open Go.RowKit
/-- The world has drawn some answers of the tape, no more. -/
def Dr (w w' : World) : Prop := ∃ m, w' = w.drewN m
theorem Dr.refl (w : World) : Dr w w := ⟨0, rfl⟩
theorem Dr.trans {a b c : World} (h : Dr a b) (k : Dr b c) : Dr a c := by
  obtain ⟨m, rfl⟩ := h; obtain ⟨n, rfl⟩ := k; exact ⟨m + n, by rw [World.drewN_drewN]⟩
def heldI (lo hi n : Int) : Int := if hi < (if n < lo then lo else n) then hi else (if n < lo then lo else n)
theorem heldI_in {lo hi n : Int} (a : lo ≤ n) (b : n ≤ hi) : heldI lo hi n = n := by unfold heldI; rw [if_neg (by omega : ¬ n < lo), if_neg (by omega)]
theorem heldI_bd {lo hi : Int} (n : Int) (a : lo ≤ hi) : lo ≤ heldI lo hi n ∧ heldI lo hi n ≤ hi := by unfold heldI; split <;> split <;> omega
theorem heldI_lo {lo hi n : Int} (c : lo ≤ hi) (a : n ≤ lo) : heldI lo hi n = lo := by have h := heldI_bd n c; unfold heldI at h ⊢; split <;> split <;> omega
theorem heldI_hi {lo hi n : Int} (c : lo ≤ hi) (a : hi ≤ n) : heldI lo hi n = hi := by have h := heldI_bd n c; unfold heldI at h ⊢; split <;> split <;> omega

theorem ret_dr {k : IntKind} {a b : Int} {w w' : World} (h : a = b) (d : Dr w w') : Ending.returned (.int k a) = .returned (.int k b) ∧ Dr w w' := ⟨by rw [h], d⟩
theorem ret_same {k : IntKind} {a b : Int} {w : World} (h : a = b) : Ending.returned (.int k a) = .returned (.int k b) ∧ w = w := ⟨by rw [h], rfl⟩
theorem ret_bool {a b : Bool} {w : World} (h : a = b) : Ending.returned (.bool a) = .returned (.bool b) ∧ w = w := ⟨by rw [h], rfl⟩

/-! ### held: each row of the table -/
/-! ### join, upper, lower -/
theorem or_u64 (a b : Int) (i : Nat) (hi : i ≤ 24) (h0 : 0 ≤ a) (h1 : a ≤ 1073741824) (h2 : 0 ≤ b) (h3 : b < 2 ^ i) : wrap64 (bits .or .u64 (a * 2 ^ i) b) = a * 2 ^ i + b := by
  obtain ⟨x, rfl⟩ := Int.eq_ofNat_of_zero_le h0
  obtain ⟨y, rfl⟩ := Int.eq_ofNat_of_zero_le h2
  have hp : 2 ^ i ≤ 2 ^ 24 := Nat.pow_le_pow_right (by decide) hi
  have hy : y < 2 ^ i := by
    have : ((2 ^ i : Nat) : Int) = (2 : Int) ^ i := by simp
    omega
  have hx : x * 2 ^ i ≤ 1073741824 * 2 ^ 24 := Nat.mul_le_mul (by omega) hp
  have e : ((x : Int) * 2 ^ i) = ((x * 2 ^ i : Nat) : Int) := by simp
  rw [e, u64_or_nat _ _ (by omega) (by omega), nat_join i _ _ (Nat.mul_mod_left _ _) hy, IntWalk.wrap64_in _ ⟨by omega, by omega⟩]
  omega
/-- A word as its 64 bits. -/
def un (a : Int) : Int := a % 18446744073709551616
theorem un_in {a : Int} (h0 : 0 ≤ a) (h1 : a ≤ 9223372036854775807) : un a = a := by unfold un; omega
theorem wrap_un (a : Int) : IntKind.u64.wrap a = un a := IntKind.wrap_u64 a
theorem un_bd (a : Int) : 0 ≤ un a ∧ un a < 18446744073709551616 := by unfold un; omega
theorem up_u64 (a d : Int) (hd : 2 ≤ d) : wrap64 (IntKind.u64.wrap a / d) = un a / d := by
  have hb := un_bd a
  rw [wrap_un]
  have h2 : 0 ≤ un a / d := Int.ediv_nonneg hb.1 (by omega)
  have h1 := Int.ediv_mul_le (un a) (show d ≠ 0 by omega)
  have h3 := Int.mul_le_mul_of_nonneg_left hd h2
  exact IntWalk.wrap64_in _ ⟨by omega, by omega⟩
theorem upper1 (a : Int) (w : World) : Calls Try.prog 37 #[.int .i64 a, .int .u64 1] w fun e w' => e = .returned (.int .i64 (un a / 2)) ∧ w' = w := by
  go_enter Try.func37, Try.ntmps37
  go_wp2
  go_ret
  exact ret_same (up_u64 a 2 (by decide))
theorem upper24 (a : Int) (w : World) : Calls Try.prog 37 #[.int .i64 a, .int .u64 24] w fun e w' => e = .returned (.int .i64 (un a / 16777216)) ∧ w' = w := by
  go_enter Try.func37, Try.ntmps37
  go_wp2
  go_ret
  exact ret_same (up_u64 a 16777216 (by decide))
theorem upper21 (a : Int) (w : World) : Calls Try.prog 37 #[.int .i64 a, .int .u64 21] w fun e w' => e = .returned (.int .i64 (un a / 2097152)) ∧ w' = w := by
  go_enter Try.func37, Try.ntmps37
  go_wp2
  go_ret
  exact ret_same (up_u64 a 2097152 (by decide))
theorem low_u64 (a : Int) (i m : Nat) (hm : m + 1 = 2 ^ i) (hi : i ≤ 24) : wrap64 (bits .and .u64 (IntKind.u64.wrap a) (m : Int)) = a % ((m + 1 : Nat) : Int) := by
  have hb := un_bd a
  rw [wrap_un]
  obtain ⟨x, hx⟩ := Int.eq_ofNat_of_zero_le hb.1
  have hp : 2 ^ i ≤ 2 ^ 24 := Nat.pow_le_pow_right (by decide) hi
  have hpos : 0 < 2 ^ i := Nat.two_pow_pos i
  have hlt : x % 2 ^ i < 2 ^ i := Nat.mod_lt _ hpos
  rw [hx, u64_and_nat _ _ (by omega) (by omega), show m = 2 ^ i - 1 by omega, Nat.and_two_pow_sub_one_eq_mod, IntWalk.wrap64_in _ ⟨by omega, by omega⟩, show 2 ^ i - 1 + 1 = 2 ^ i by omega, Int.natCast_emod, ← hx]
  unfold un
  refine Int.emod_emod_of_dvd _ ?_
  have : (18446744073709551616 : Nat) = 2 ^ i * 2 ^ (64 - i) := by rw [← Nat.pow_add, show i + (64 - i) = 64 by omega]
  exact ⟨((2 ^ (64 - i) : Nat) : Int), by rw [← Int.natCast_mul, ← this]; rfl⟩
theorem lower1 (a : Int) (w : World) : Calls Try.prog 36 #[.int .i64 a, .int .u64 1] w fun e w' => e = .returned (.int .i64 (a % 2)) ∧ w' = w := by
  go_enter Try.func36, Try.ntmps36
  go_wp2
  go_ret
  exact ret_same (low_u64 a 1 1 (by decide) (by decide))
theorem lower24 (a : Int) (w : World) : Calls Try.prog 36 #[.int .i64 a, .int .u64 24] w fun e w' => e = .returned (.int .i64 (a % 16777216)) ∧ w' = w := by
  go_enter Try.func36, Try.ntmps36
  go_wp2
  go_ret
  exact ret_same (low_u64 a 24 16777215 (by decide) (by decide))
theorem lower21 (a : Int) (w : World) : Calls Try.prog 36 #[.int .i64 a, .int .u64 21] w fun e w' => e = .returned (.int .i64 (a % 2097152)) ∧ w' = w := by
  go_enter Try.func36, Try.ntmps36
  go_wp2
  go_ret
  exact ret_same (low_u64 a 21 2097151 (by decide) (by decide))

/-! ### The face -/
def bit (b : Bool) : Int := if b then 1 else 0
def nextI (p : Int) (b : Bool) : Int := heldI 0 1073741824 p * 2 + bit b
def stateI (v : Int) : Int := heldI 0 16777212 v + 3
def versionI (s : Int) : Int := if s < 3 then -1 else s - 3
def claimI (s p : Int) : Int := heldI 0 1073741824 s * 16777216 + heldI 0 16777212 p
def dataI (d v : Int) : Int := heldI 0 1048576 d * 2097152 + (heldI (-1) 1048576 v + 1)
theorem at_any (a : Int) (w : World) : Calls Try.prog 27 #[.int .i64 a] w fun e w' => e = .returned (.int .i64 (un a / 2)) ∧ w' = w := by
  go_enter Try.func27, Try.ntmps27
  go_wp2_with fail
  refine (upper1 _ _).mono ?_
  rintro e w' ⟨rfl, rfl⟩
  go_wp2
  go_ret
  exact ret_same rfl
def markB (a : Int) : Bool := decide (a % 2 = 1)
theorem marked_any (a : Int) (w : World) : Calls Try.prog 24 #[.int .i64 a] w fun e w' => e = .returned (.bool (markB a)) ∧ w' = w := by
  go_enter Try.func24, Try.ntmps24
  go_wp2_with fail
  refine (lower1 _ _).mono ?_
  rintro e w' ⟨rfl, rfl⟩
  go_wp2
  go_ret
  exact ret_bool (by unfold markB; rw [Bool.eq_iff_iff]; simp)
end Go.Proofs.Ytfchbbhopfganaa.Word
