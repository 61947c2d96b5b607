/- Package op: which scripts are too large. -/
import Derived.Test.YtedenkghacbdeaaDoorScr
namespace Go.Proofs.YtedenkghacbdeaaDoor.Og
open Go.RowKit Go.Maps Go.Proofs.YtedenkghacbdeaaDoor.Ar
set_option linter.unusedVariables false
set_option linter.unusedSimpArgs false
def long (os : List O) : Bool := decide (1000 < os.length)
theorem long_any (os : List O) (v : Value) (w : World) (h : OpRow w v os) : Calls Tryd.prog 42 #[v] w fun e w' => e = .returned (.bool (long os)) ∧ w = w' := by
  obtain ⟨a, cap, rfl, hl, -, -⟩ := h
  go_enter Tryd.func42, Tryd.ntmps42
  go_wp2
  go_ret
  exact ⟨by rw [show long os = decide ((1000 : Int) < os.length) by unfold long; congr 1; apply propext; omega]; rfl, rfl⟩
def IdxAt (w : World) (rs : List (List O)) (x : Value) (wr : World) : Prop := ∃ n : Nat, n ≤ rs.length ∧ x = .int .i64 n ∧ wr = w ∧ ∀ i, i < n → long (nthR rs i) = false
set_option maxHeartbeats 1600000 in
theorem index_any (rs : List (List O)) (v : Value) (w : World) (h : OpRows w v rs) : Calls Tryd.prog 49 #[v, .func (.func 42) #[] #[]] w fun e w' => (∃ r : Int, e = .returned (.int .i64 r) ∧ decide (r ≥ 0) = rs.any long) ∧ w = w' := by
  obtain ⟨a, cap, x, rfl, hl, hc, hr⟩ := h
  have HC := Lib.hid hc
  clear hc
  unfold maxLen at hl
  go_enter Tryd.func49, Tryd.ntmps49
  go_wp2_with fail
  go_loopw [8] (IdxAt w rs) (fun x _ => rs.length - (intOf x).toNat)
  case atStart => exact ⟨0, Nat.zero_le _, rfl, rfl, by omega⟩
  case round =>
    obtain ⟨n, hn, rfl, rfl, hi⟩ := hrel
    by_cases hlt : n < rs.length
    · rcases HC.out with hz | ⟨b, off, rfl, hb, hcell⟩
      · omega
      have d0 := hcell n hlt
      have hx := hr n hlt
      clear hcell
      go_wp2_with fail
      refine (long_any (nthR rs n) _ _ hx).mono ?_; rintro e w' ⟨rfl, rfl⟩
      cases hg : long (nthR rs n) with
      | true =>
        go_wp2
        go_ret
        exact ⟨⟨_, rfl, by rw [show rs.any long = true from List.any_eq_true.2 ⟨_, nthR_mem hlt, hg⟩]; simp⟩, rfl⟩
      | false =>
        go_wp2
        go_roundw
        case rel =>
          refine ⟨n + 1, by omega, by go_num, rfl, fun i hi' => ?_⟩
          by_cases hin : i = n
          · rw [hin]; exact hg
          · exact hi i (by omega)
        case measure => simp [intOf]; omega
    · obtain rfl : n = rs.length := by omega
      go_wp2
      go_ret
      refine ⟨⟨_, rfl, ?_⟩, rfl⟩
      have : rs.any long = false := by
        rw [List.any_eq_false]; intro y hy
        obtain ⟨i, hi', rfl⟩ := List.getElem_of_mem hy
        have := hi i hi'
        unfold nthR at this
        simpa [List.getD_eq_getElem?_getD, hi'] using this
      rw [this]; simp
theorem contains_any (rs : List (List O)) (v : Value) (w : World) (h : OpRows w v rs) : Calls Tryd.prog 41 #[v, .func (.func 42) #[] #[]] w fun e w' => e = .returned (.bool (rs.any long)) ∧ w = w' := by
  go_enter Tryd.func41, Tryd.ntmps41
  go_wp2_with fail
  refine (index_any rs v _ h).mono ?_; rintro e w' ⟨⟨r, rfl, hr⟩, rfl⟩
  go_wp2
  go_ret
  exact ⟨by rw [← hr]; rfl, rfl⟩
/-- A script that is too large. -/
def large (t : Int) (rs : List (List O)) (ps : List Int) : Bool := decide (t < rs.length) || (decide (20000 < ps.length) || rs.any long)
set_option maxHeartbeats 1600000 in
theorem large_any (t c wd v : Int) (rs : List (List O)) (ps ds : List Int) (s : Value) (w : World) (h : Scr w s t c wd v rs ps ds) :
    Calls Tryd.prog 26 #[s] w fun e w' => e = .returned (.bool (large t rs ps)) ∧ Fr [] w w' := by
  obtain ⟨vo, vp, vd, rfl, hr, hp, hd⟩ := h
  have F := (Fr.refl [] w).alloc (.cells #[.int .i64 t, .int .i64 c, .int .i64 wd, .int .i64 v, vo, vp, vd] 29)
  have hr1 := hr.up F
  obtain ⟨a, cap, x, rfl, -, -, -⟩ := hr
  obtain ⟨a2, cap2, rfl, -, -, -⟩ := hp
  go_enter Tryd.func26, Tryd.ntmps26
  by_cases h1 : t < rs.length
  · have g : decide ((rs.length : Int) > t) = true := by simpa using h1
    go_wp2
    go_ret
    exact ⟨by unfold large; simp [h1], F⟩
  · have g : decide ((rs.length : Int) > t) = false := by simpa using h1
    by_cases h2 : 20000 < ps.length
    · have g2 : decide ((ps.length : Int) > 20000) = true := by simpa using (by omega : (20000 : Int) < ps.length)
      go_wp2
      go_ret
      exact ⟨by unfold large; simp [h2], F⟩
    · have g2 : decide ((ps.length : Int) > 20000) = false := by simpa using (by omega : ¬ (20000 : Int) < ps.length)
      go_wp2_with fail
      refine (contains_any rs _ _ hr1).mono ?_; rintro e w' ⟨rfl, rfl⟩
      cases hl : rs.any long
      · go_wp2
        go_ret
        exact ⟨by unfold large; simp [h1, h2, hl], F⟩
      · go_wp2
        go_ret
        exact ⟨by unfold large; simp [h1, h2, hl], F⟩
end Go.Proofs.YtedenkghacbdeaaDoor.Og
