/- Package keep's compare: cmp.Compare, cmp.Or. -/
import Derived.Test.YteahponbknljlaaDr
import Derived.Test.YteahponbknljlaaKpure
import Derived.Test.YteahponbknljlaaChecked
namespace Go.Proofs.Yteahponbknljlaa.Kp
open Go.RowKit Go.Proofs.Yteahponbknljlaa.Mx
set_option linter.unusedVariables false
set_option linter.unusedSimpArgs false
def cfZ (x y : Int) : Int := if x < y then -1 else if y < x then 1 else 0
theorem isNaN_any (x : Int) (w : World) : Calls Try.prog 43 #[.int .i64 x] w fun e w' => e = .returned (.bool false) ∧ w' = w := by
  go_enter Try.func43, Try.ntmps43
  go_wp2_with fail
  go_ret
  exact ⟨by simp, rfl⟩
set_option maxHeartbeats 1600000 in
theorem cmp_any (x y : Int) (w : World) : Calls Try.prog 33 #[.int .i64 x, .int .i64 y] w fun e w' => e = .returned (.int .i64 (cfZ x y)) ∧ w' = w := by
  go_enter Try.func33, Try.ntmps33
  unfold cfZ
  by_cases h1 : x < y
  · go_wp2_with (go_at_call 43; refine (isNaN_any _ _).mono ?_; rintro e w' ⟨rfl, rfl⟩)
    go_ret
    exact ⟨by simp [h1], rfl⟩
  · by_cases h2 : y < x
    · go_wp2_with (go_at_call 43; refine (isNaN_any _ _).mono ?_; rintro e w' ⟨rfl, rfl⟩)
      go_ret
      exact ⟨by simp [h1, h2], rfl⟩
    · go_wp2_with (go_at_call 43; refine (isNaN_any _ _).mono ?_; rintro e w' ⟨rfl, rfl⟩)
      go_ret
      exact ⟨by simp [h1, h2], rfl⟩
/-- The first that isn't zero. -/
def orZ (a c : Int) : Int := if a = 0 then c else a
theorem or_any (a c : Int) (b : Nat) (w : World) (h0 : w.cell? ⟨b, 0, none⟩ = some (.int .i64 a)) (h1 : w.cell? ⟨b, 1, none⟩ = some (.int .i64 c)) :
    Calls Try.prog 32 #[.slice (some ⟨b, 0, none⟩) 2 2] w fun e w' => e = .returned (.int .i64 (orZ a c)) ∧ w' = w := by
  unfold orZ
  go_enter Try.func32, Try.ntmps32
  go_wp2_with fail
  go_loopw [8] (fun x wr => ∃ i : Nat, i ≤ 2 ∧ x = .int .i64 (i : Nat) ∧ wr = w ∧ (0 < i → a = 0) ∧ (1 < i → c = 0)) (fun x _ => 2 - (match x with | .int _ z => z.toNat | _ => 0))
  case atStart => exact ⟨0, by omega, rfl, rfl, by omega, by omega⟩
  case round =>
    obtain ⟨i, hi, rfl, rfl, ha, hc⟩ := hrel
    rcases (show i = 0 ∨ i = 1 ∨ i = 2 by omega) with rfl | rfl | rfl
    · by_cases hz : a = 0
      · go_wp2_with fail
        go_roundw
        case rel => exact ⟨1, by omega, by simp, by simp, fun _ => hz, by omega⟩
        case measure => simp
      · go_wp2_with fail
        go_ret
        exact ⟨rfl, rfl⟩
    · have hz := ha (by omega)
      by_cases hz2 : c = 0
      · go_wp2_with fail
        go_roundw
        case rel => exact ⟨2, by omega, by simp, by simp, fun _ => hz, fun _ => hz2⟩
        case measure => simp
      · go_wp2_with fail
        go_ret
        exact ⟨rfl, rfl⟩
    · have hz := ha (by omega)
      have hz2 := hc (by omega)
      go_wp2_with fail
      go_ret
      exact ⟨by simp [hz, hz2], rfl⟩
end Go.Proofs.Yteahponbknljlaa.Kp
