/- The reference's ops and numbers: what each function answers: the same as package op's. -/
import Derived.Test.YtedenkghacbdeaaDoorScript
import Derived.Test.YtedenkghacbdeaaDoorSameAll
import Derived.Test.YtedenkghacbdeaaDoorAt
namespace Go.Proofs.YtedenkghacbdeaaDoor.Ro
open Go.RowKit Go.Maps Go.Proofs.YtedenkghacbdeaaDoor.Ar Go.Proofs.YtedenkghacbdeaaDoor.Og
set_option linter.unusedVariables false
set_option linter.unusedSimpArgs false
def keyB (k : Int) : Bool := decide (0 ≤ k) && decide (k ≤ 63)
theorem key_any (k : Int) (w : World) : Calls Tryd.prog 23 #[.int .i64 k] w fun e w' => e = .returned (.bool (keyB k)) ∧ w = w' := by
  go_enter Tryd.func23, Tryd.ntmps23
  by_cases h : 0 ≤ k
  · have g : decide (k ≥ 0) = true := by simpa using h
    go_wp2
    go_ret
    exact ⟨by simp [keyB, h], rfl⟩
  · have g : decide (k ≥ 0) = false := by simpa using h
    have e : keyB k = false := by unfold keyB; simp; omega
    go_wp2
    go_ret
    exact ⟨by first | rfl | (rw [e]; rfl), rfl⟩
theorem fit1 (ky v t : Int) : fit 1 ky v t = (keyB ky && (decide (0 ≤ v) && (decide (v ≤ 1048576) && (t == 0)))) := by
  unfold fit inF most keyB
  rw [Bool.eq_iff_iff]; simp; omega
theorem fit23 (k ky v t : Int) (h : k = 2 ∨ k = 3) : fit k ky v t = (keyB ky && ((v == 0) && (t == 0))) := by
  rcases h with rfl | rfl
  all_goals
    unfold fit inF most keyB
    rw [Bool.eq_iff_iff]; simp; omega
theorem fit4 (ky v t : Int) : fit 4 ky v t = (keyB ky && (keyB t && (v == 0))) := by
  unfold fit inF most keyB
  rw [Bool.eq_iff_iff]; simp; omega
theorem fit0 (k ky v t : Int) (h : k ≠ 1 ∧ k ≠ 2 ∧ k ≠ 3 ∧ k ≠ 4) : fit k ky v t = false := by
  unfold fit most; simp [h.1, h.2.1, h.2.2.1, h.2.2.2]
set_option maxHeartbeats 3200000 in
theorem isOp_any (k ky v t : Int) (w : World) :
    Calls Tryd.prog 10 #[.agg #[.int .i64 k, .int .i64 ky, .int .i64 v, .int .i64 t]] w fun e w' => e = .returned (.bool (fit k ky v t)) ∧ Fr [] w w' := by
  have F := (Fr.refl [] w).alloc (.cells #[.int .i64 k, .int .i64 ky, .int .i64 v, .int .i64 t] 23)
  go_enter Tryd.func10, Tryd.ntmps10
  by_cases e1 : k = 1
  · subst e1
    go_wp2_with fail
    refine (key_any ky _).mono ?_; rintro e w' ⟨rfl, rfl⟩
    cases hb : keyB ky with
    | false => go_wp2; go_ret; exact ⟨by rw [fit1, hb]; rfl, F⟩
    | true =>
      by_cases h1 : 0 ≤ v
      · have g1 : decide (v ≥ 0) = true := by simpa using h1
        by_cases h2 : v ≤ 1048576
        · have g2 : decide (v ≤ 1048576) = true := by simpa using h2
          go_wp2; go_ret; exact ⟨by rw [fit1, hb]; simp [h1, h2], F⟩
        · have g2 : decide (v ≤ 1048576) = false := by simpa using h2
          go_wp2; go_ret; exact ⟨by rw [fit1, hb]; simp; omega, F⟩
      · have g1 : decide (v ≥ 0) = false := by simpa using h1
        go_wp2; go_ret; exact ⟨by rw [fit1, hb]; simp; omega, F⟩
  by_cases e2 : k = 2
  · subst e2
    go_wp2_with fail
    refine (key_any ky _).mono ?_; rintro e w' ⟨rfl, rfl⟩
    cases hb : keyB ky with
    | false => go_wp2; go_ret; exact ⟨by rw [fit23 _ _ _ _ (.inl rfl), hb]; rfl, F⟩
    | true =>
      cases hv : v == 0 with
      | true => go_wp2; go_ret; exact ⟨by rw [fit23 _ _ _ _ (.inl rfl), hb, hv]; rfl, F⟩
      | false => go_wp2; go_ret; exact ⟨by rw [fit23 _ _ _ _ (.inl rfl), hb, hv]; rfl, F⟩
  by_cases e3 : k = 3
  · subst e3
    go_wp2_with fail
    refine (key_any ky _).mono ?_; rintro e w' ⟨rfl, rfl⟩
    cases hb : keyB ky with
    | false => go_wp2; go_ret; exact ⟨by rw [fit23 _ _ _ _ (.inr rfl), hb]; rfl, F⟩
    | true =>
      cases hv : v == 0 with
      | true => go_wp2; go_ret; exact ⟨by rw [fit23 _ _ _ _ (.inr rfl), hb, hv]; rfl, F⟩
      | false => go_wp2; go_ret; exact ⟨by rw [fit23 _ _ _ _ (.inr rfl), hb, hv]; rfl, F⟩
  by_cases e4 : k = 4
  · subst e4
    go_wp2_with fail
    refine (key_any ky _).mono ?_; rintro e w' ⟨rfl, rfl⟩
    cases hb : keyB ky with
    | false => go_wp2; go_ret; exact ⟨by rw [fit4, hb]; rfl, F⟩
    | true =>
      go_wp2_with fail
      refine (key_any t _).mono ?_; rintro e w' ⟨rfl, rfl⟩
      cases ht : keyB t with
      | true => go_wp2; go_ret; exact ⟨by rw [fit4, hb, ht]; rfl, F⟩
      | false => go_wp2; go_ret; exact ⟨by rw [fit4, hb, ht]; rfl, F⟩
  have g1 : (k == 1) = false := by simp [e1]
  have g2 : (k == 2) = false := by simp [e2]
  have g3 : (k == 3) = false := by simp [e3]
  have g4 : (k == 4) = false := by simp [e4]
  have hf := fit0 k ky v t ⟨e1, e2, e3, e4⟩
  clear e1 e2 e3 e4
  go_wp2
  go_ret
  exact ⟨by rw [hf]; rfl, F⟩
set_option maxHeartbeats 1600000 in
theorem writerOf_any (t i : Int) (w : World) : Calls Tryd.prog 17 #[.int .i64 t, .int .i64 i] w fun x w' => x = .returned (.int .i64 (wrOf t i)) ∧ w = w' := by
  go_enter Tryd.func17, Tryd.ntmps17
  by_cases h1 : t < 0
  · have g1 : decide (t < 0) = true := by simpa using h1
    go_wp2; go_ret; exact ⟨by unfold wrOf; rw [if_neg (by omega)]; rfl, rfl⟩
  have g1 : decide (t < 0) = false := by simpa using h1
  by_cases h2 : 8 ≤ t
  · have g2 : decide (t ≥ 8) = true := by simpa using h2
    go_wp2; go_ret; exact ⟨by unfold wrOf; rw [if_neg (by omega)]; rfl, rfl⟩
  have g2 : decide (t ≥ 8) = false := by simpa using h2
  by_cases h3 : i < 0
  · have g3 : decide (i < 0) = true := by simpa using h3
    go_wp2; go_ret; exact ⟨by unfold wrOf; rw [if_neg (by omega)]; rfl, rfl⟩
  have g3 : decide (i < 0) = false := by simpa using h3
  by_cases h4 : 1000 ≤ i
  · have g4 : decide (i ≥ 1000) = true := by simpa using h4
    go_wp2; go_ret; exact ⟨by unfold wrOf; rw [if_neg (by omega)]; rfl, rfl⟩
  have g4 : decide (i ≥ 1000) = false := by simpa using h4
  go_wp2; go_ret; exact ⟨by unfold wrOf; rw [if_pos (by omega)]; rfl, rfl⟩
theorem of_any (x : Int) (w : World) : Calls Tryd.prog 6 #[.int .i64 x] w fun e w' => e = .returned (.tuple #[.int .i64 (thr x), .int .i64 (ind x)]) ∧ w = w' := by
  go_enter Tryd.func6, Tryd.ntmps6
  by_cases h1 : x < 0
  · have g1 : decide (x < 0) = true := by simpa using h1
    have e1 : thr x = -1 ∧ ind x = -1 := by unfold thr ind; rw [if_neg (by omega), if_neg (by omega)]; exact ⟨rfl, rfl⟩
    go_wp2
    exact bodyPost_ret (v := .tuple #[.int .i64 (thr x), .int .i64 (ind x)]) (by simp [results, Tryd.results6, go_sem, e1]) rfl ⟨by first | rfl | rw [e1.1, e1.2], rfl⟩
  have g1 : decide (x < 0) = false := by simpa using h1
  by_cases h2 : 8000 ≤ x
  · have g2 : decide (x ≥ 8000) = true := by simpa using h2
    have e1 : thr x = -1 ∧ ind x = -1 := by unfold thr ind; rw [if_neg (by omega), if_neg (by omega)]; exact ⟨rfl, rfl⟩
    go_wp2
    exact bodyPost_ret (v := .tuple #[.int .i64 (thr x), .int .i64 (ind x)]) (by simp [results, Tryd.results6, go_sem, e1]) rfl ⟨by first | rfl | rw [e1.1, e1.2], rfl⟩
  have g2 : decide (x ≥ 8000) = false := by simpa using h2
  have e1 : thr x = x / 1000 ∧ ind x = x % 1000 := by unfold thr ind; rw [if_pos (by omega), if_pos (by omega)]; exact ⟨rfl, rfl⟩
  have h0 : 0 ≤ x ∧ x < 8000 := by omega
  go_wp2
  exact bodyPost_ret (v := .tuple #[.int .i64 (thr x), .int .i64 (ind x)]) (by simp [results, Tryd.results6, go_sem, e1]) rfl ⟨by first | rfl | rw [e1.1, e1.2], rfl⟩
end Go.Proofs.YtedenkghacbdeaaDoor.Ro
