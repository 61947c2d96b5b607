/- The reference's words and places: what each function answers. -/
import Derived.Test.YtfchbbhopfganaaEnvL
import Derived.Test.YtfchbbhopfganaaRar
import Derived.WalkArith
import Derived.Laws.BitsAllLaws
namespace Go.Proofs.Ytfchbbhopfganaa.Mx
open Go.RowKit Go.Proofs.Ytfchbbhopfganaa.Ar Go.Proofs.Ytfchbbhopfganaa.Ref
set_option linter.unusedVariables false
set_option linter.unusedSimpArgs false
def hd (n a b : Int) : Int := max a (min n b)
theorem hd_bd (n : Int) {a b : Int} (h : a ≤ b) : a ≤ hd n a b ∧ hd n a b ≤ b := by unfold hd; omega
theorem hd_in {n a b : Int} (h1 : a ≤ n) (h2 : n ≤ b) : hd n a b = n := by unfold hd; omega
theorem w64 {a : Int} (h0 : -9223372036854775808 ≤ a) (h1 : a ≤ 9223372036854775807) : wrap64 a = a := IntWalk.wrap64_in a ⟨h0, h1⟩
theorem or_u64 (a b : Int) (i : Nat) (hi : i ≤ 24) (h0 : 0 ≤ a) (h1 : a ≤ 1073741824) (h2 : 0 ≤ b) (h3 : b < 2 ^ i) : wrap64 (bits .or .u64 (a * 2 ^ i) b) = a * 2 ^ i + b := by
  obtain ⟨x, rfl⟩ := Int.eq_ofNat_of_zero_le h0
  obtain ⟨y, rfl⟩ := Int.eq_ofNat_of_zero_le h2
  have hp : 2 ^ i ≤ 2 ^ 24 := Nat.pow_le_pow_right (by decide) hi
  have hy : y < 2 ^ i := by
    have : ((2 ^ i : Nat) : Int) = (2 : Int) ^ i := by simp
    omega
  have hx : x * 2 ^ i ≤ 1073741824 * 2 ^ 24 := Nat.mul_le_mul (by omega) hp
  have e : ((x : Int) * 2 ^ i) = ((x * 2 ^ i : Nat) : Int) := by simp
  rw [e, u64_or_nat _ _ (by omega) (by omega), nat_join i _ _ (Nat.mul_mod_left _ _) hy, IntWalk.wrap64_in _ ⟨by omega, by omega⟩]
  omega
/-- A word as its 64 bits. -/
def un (a : Int) : Int := a % 18446744073709551616
theorem un_in {a : Int} (h0 : 0 ≤ a) (h1 : a ≤ 9223372036854775807) : un a = a := by unfold un; omega
theorem wrap_un (a : Int) : IntKind.u64.wrap a = un a := IntKind.wrap_u64 a
theorem un_bd (a : Int) : 0 ≤ un a ∧ un a < 18446744073709551616 := by unfold un; omega
theorem low_u64 (a : Int) (i m : Nat) (hm : m + 1 = 2 ^ i) (hi : i ≤ 24) : wrap64 (bits .and .u64 (IntKind.u64.wrap a) (m : Int)) = a % ((m + 1 : Nat) : Int) := by
  have hb := un_bd a
  rw [wrap_un]
  obtain ⟨x, hx⟩ := Int.eq_ofNat_of_zero_le hb.1
  have hp : 2 ^ i ≤ 2 ^ 24 := Nat.pow_le_pow_right (by decide) hi
  have hpos : 0 < 2 ^ i := Nat.two_pow_pos i
  have hlt : x % 2 ^ i < 2 ^ i := Nat.mod_lt _ hpos
  rw [hx, u64_and_nat _ _ (by omega) (by omega), show m = 2 ^ i - 1 by omega, Nat.and_two_pow_sub_one_eq_mod, IntWalk.wrap64_in _ ⟨by omega, by omega⟩, show 2 ^ i - 1 + 1 = 2 ^ i by omega, Int.natCast_emod, ← hx]
  unfold un
  refine Int.emod_emod_of_dvd _ ?_
  have : (18446744073709551616 : Nat) = 2 ^ i * 2 ^ (64 - i) := by rw [← Nat.pow_add, show i + (64 - i) = 64 by omega]
  exact ⟨((2 ^ (64 - i) : Nat) : Int), by rw [← Int.natCast_mul, ← this]; rfl⟩
theorem bv_u (a : Int) : BitVec.ofInt 64 (IntKind.u64.wrap a) = BitVec.ofInt 64 a := by
  rw [wrap_un]; unfold un
  apply BitVec.eq_of_toNat_eq
  rw [BitVec.toNat_ofInt, BitVec.toNat_ofInt]
  have : a % 18446744073709551616 % ((2 ^ 64 : Nat) : Int) = a % ((2 ^ 64 : Nat) : Int) := by
    rw [show ((2 ^ 64 : Nat) : Int) = 18446744073709551616 by decide]; omega
  rw [this]
theorem i64_wrap64 (n : Int) : IntKind.i64.wrap n = wrap64 n := by unfold wrap64; rw [IntKind.wrap_i64]
theorem and_i64 (a b : Int) : bits .and .i64 a b = wrap64 (bits .and .u64 (IntKind.u64.wrap a) b) := by
  show IntKind.i64.wrap ((BitVec.ofInt 64 a &&& BitVec.ofInt 64 b).toNat : Int) = wrap64 (IntKind.u64.wrap ((BitVec.ofInt 64 (IntKind.u64.wrap a) &&& BitVec.ofInt 64 b).toNat : Int))
  rw [bv_u]
  have h := (BitVec.ofInt 64 a &&& BitVec.ofInt 64 b).isLt
  generalize (BitVec.ofInt 64 a &&& BitVec.ofInt 64 b).toNat = n at *
  rw [IntKind.wrap_u64, show (n : Int) % 18446744073709551616 = n by omega]
  exact i64_wrap64 n
theorem or_i64 (a b : Int) : bits .or .i64 a b = wrap64 (bits .or .u64 a b) := by
  show IntKind.i64.wrap ((BitVec.ofInt 64 a ||| BitVec.ofInt 64 b).toNat : Int) = wrap64 (IntKind.u64.wrap ((BitVec.ofInt 64 a ||| BitVec.ofInt 64 b).toNat : Int))
  have h := (BitVec.ofInt 64 a ||| BitVec.ofInt 64 b).isLt
  generalize (BitVec.ofInt 64 a ||| BitVec.ofInt 64 b).toNat = n at *
  rw [IntKind.wrap_u64, show (n : Int) % 18446744073709551616 = n by omega]
  exact i64_wrap64 n
theorem low_i64 (a : Int) (i m : Nat) (hm : m + 1 = 2 ^ i) (hi : i ≤ 24) : bits .and .i64 a (m : Int) = a % ((m + 1 : Nat) : Int) := by rw [and_i64, low_u64 a i m hm hi]
theorem join_i64 (a b : Int) (i : Nat) (hi : i ≤ 24) (h0 : 0 ≤ a) (h1 : a ≤ 1073741824) (h2 : 0 ≤ b) (h3 : b < 2 ^ i) : bits .or .i64 (a * 2 ^ i) b = a * 2 ^ i + b := by rw [or_i64, or_u64 a b i hi h0 h1 h2 h3]
theorem ret_i {a b : Int} {w : World} (h : a = b) : Ending.returned (.int .i64 a) = .returned (.int .i64 b) ∧ w = w := ⟨by rw [h], rfl⟩
theorem ret_b {a b : Bool} {w : World} (h : a = b) : Ending.returned (.bool a) = .returned (.bool b) ∧ w = w := ⟨by rw [h], rfl⟩
theorem held_any (n a b : Int) (w : World) : Calls Try.prog 21 #[.int .i64 n, .int .i64 a, .int .i64 b] w fun e w' => e = .returned (.int .i64 (hd n a b)) ∧ w = w' := by
  generalize hm : hd n a b = m
  have hm' := Lib.hid hm
  clear hm
  go_enter Try.func21, Try.ntmps21
  go_wp2
  all_goals go_ret
  all_goals exact ret_i (by rw [← hm'.out]; unfold hd; (repeat' split at *) <;> omega)
def nextW (a : Int) (m : Bool) : Int := hd a 0 1073741824 * 2 + (if m then 1 else 0)
def atW (a : Int) : Int := a / 2
def markW (a : Int) : Bool := decide (a % 2 = 1)
def stateW (v : Int) : Int := hd v 0 16777212 + 3
def verW (s : Int) : Int := if s < 3 then -1 else wrap64 (s - 3)
def claimW (s p : Int) : Int := hd s 0 1073741824 * 16777216 + hd p 0 16777212
def seqW (a : Int) : Int := a / 16777216
def partW (a : Int) : Int := a % 16777216
def dataW (d v : Int) : Int := hd d 0 1048576 * 2097152 + (hd v (-1) 1048576 + 1)
def whoW (a : Int) : Int := a / 2097152
def valW (a : Int) : Int := a % 2097152 - 1
theorem next_any (a : Int) (m : Bool) (w : World) : Calls Try.prog 9 #[.int .i64 a, .bool m] w fun e w' => e = .returned (.int .i64 (nextW a m)) ∧ w = w' := by
  have hb := hd_bd a (show (0 : Int) ≤ 1073741824 by decide)
  have hw : wrap64 (hd a 0 1073741824 * 2) = hd a 0 1073741824 * 2 := w64 (by omega) (by omega)
  have hj := join_i64 (hd a 0 1073741824) 1 1 (by decide) hb.1 hb.2 (by decide) (by decide)
  simp only [Int.pow_one, Int.reducePow] at hj
  cases m
  · go_enter Try.func9, Try.ntmps9
    go_wp2_with (go_at_call 21; refine (held_any _ _ _ _).mono ?_; rintro e _ ⟨rfl, rfl⟩)
    go_ret
    exact ret_i (by unfold nextW; simp [hw])
  · go_enter Try.func9, Try.ntmps9
    go_wp2_with (go_at_call 21; refine (held_any _ _ _ _).mono ?_; rintro e _ ⟨rfl, rfl⟩)
    go_ret
    exact ret_i (by unfold nextW; simp [hw, hj])
end Go.Proofs.Ytfchbbhopfganaa.Mx
