/- The reference's ops and numbers: the op of a number. -/
import Derived.Test.YtedenkghacbdeaaDoorRefOp
namespace Go.Proofs.YtedenkghacbdeaaDoor.Ro
open Go.RowKit Go.Maps Go.Proofs.YtedenkghacbdeaaDoor.Ar Go.Proofs.YtedenkghacbdeaaDoor.Og
set_option linter.unusedVariables false
set_option linter.unusedSimpArgs false
set_option maxHeartbeats 3200000 in
theorem opAt_any (t c wd v x : Int) (rs : List (List O)) (ps ds : List Int) (s : Value) (w : World) (h : Scr w s t c wd v rs ps ds) :
    Calls Tryd.prog 8 #[s, .int .i64 x] w fun e w' => e = .returned (.tuple #[opv (opAt rs x), .bool (has rs x)]) ∧ Fr [] w w' := by
  obtain ⟨vo, vp, vd, rfl, hr, hp, hd⟩ := h
  obtain ⟨a, cap, y, rfl, hl, hc, hrow⟩ := hr
  have HC := Lib.hid hc
  have HR := Lib.hid hrow
  clear hc hrow hp hd
  unfold maxLen at hl
  go_enter Tryd.func8, Tryd.ntmps8
  go_wp2_with fail
  refine (of_any x _).mono ?_; rintro e w' ⟨rfl, rfl⟩
  have hTI : 0 ≤ thr x → 0 ≤ ind x := ind_ok
  have F := ((Fr.refl [] w).alloc (.cells #[.int .i64 t, .int .i64 c, .int .i64 wd, .int .i64 v, .slice a rs.length cap, vp, vd] 29)).alloc (.cells #[.int .i64 0, .int .i64 0, .int .i64 0, .int .i64 0] 23)
  generalize hT : thr x = T at *
  generalize hI : ind x = I at *
  have hno : has rs x = false → Ending.returned (.tuple #[opv (0, 0, 0, 0), .bool false]) = .returned (.tuple #[opv (opAt rs x), .bool (has rs x)]) := by
    intro e; unfold opAt; rw [e]; rfl
  by_cases hneg : T < 0
  · have g : decide (T < 0) = true := by simpa using hneg
    have hnone : has rs x = false := by
      unfold Og.has; rw [hT]
      have : decide (0 ≤ T) = false := by simp; omega
      rw [this]; rfl
    have hno' := hno hnone
    clear hno hTI
    go_wp2
    exact bodyPost_ret (v := .tuple #[opv (0, 0, 0, 0), .bool false]) (by simp [results, Tryd.results8, go_sem, opv]) rfl ⟨hno', ((Fr.refl [] w).alloc _).alloc _⟩
  have g : decide (T < 0) = false := by simp; omega
  by_cases hin : T < rs.length
  case neg =>
    have g2 : decide (T ≥ (rs.length : Int)) = true := by simp; omega
    have hnone : has rs x = false := by
      unfold Og.has; rw [hT]
      have : decide (T < (rs.length : Int)) = false := by simp; omega
      rw [this]; simp
    have hno' := hno hnone
    clear hno hTI
    go_wp2
    exact bodyPost_ret (v := .tuple #[opv (0, 0, 0, 0), .bool false]) (by simp [results, Tryd.results8, go_sem, opv]) rfl ⟨hno', ((Fr.refl [] w).alloc _).alloc _⟩
  have g2 : decide (T ≥ (rs.length : Int)) = false := by simp; omega
  have hI0 := hTI (by omega)
  obtain ⟨n, rfl⟩ : ∃ n : Nat, T = n := ⟨T.toNat, by omega⟩
  obtain ⟨m, rfl⟩ : ∃ m : Nat, I = m := ⟨I.toNat, by omega⟩
  have hlt : n < rs.length := by omega
  rcases HC.out with hz | ⟨b, off, rfl, hb, hcell⟩
  · omega
  obtain ⟨a2, cap2, hxe, hl2, -, hc2⟩ := HR.out n hlt
  have d0 := cell_up F (hcell n hlt)
  rw [hxe] at d0
  clear hcell hxe HC hTI hneg
  by_cases hm : m < (nthR rs n).length
  · have g3 : decide ((m : Int) ≥ ((nthR rs n).length : Int)) = false := by simp; omega
    have hyes : has rs x = true := by unfold Og.has; rw [hT, hI]; simp [hlt, hm]
    have hop : opAt rs x = nthO (nthR rs n) m := by unfold opAt; rw [hyes, hT, hI]; simp
    rcases hc2 with hz | ⟨b2, off2, rfl, hb2, hcell2⟩
    · omega
    obtain ⟨c0, c1, c2, c3⟩ := hcell2 m hm
    have e0 := cell_up F c0
    have e1 := cell_up F c1
    have e2 := cell_up F c2
    have e3 := cell_up F c3
    clear hcell2 c0 c1 c2 c3 hno
    have HY := Lib.hid (And.intro hyes hop)
    clear hyes hop
    go_wp2
    exact bodyPost_ret (v := .tuple #[opv (nthO (nthR rs n) m), .bool true]) (by simp [results, Tryd.results8, go_sem, opv]) rfl ⟨by rw [HY.out.1, HY.out.2], ((Fr.refl [] w).alloc _).alloc _⟩
  · have g3 : decide ((m : Int) ≥ ((nthR rs n).length : Int)) = true := by simp; omega
    have hnone : has rs x = false := by unfold Og.has; rw [hT, hI]; simp [hm]
    have hno' := hno hnone
    clear hno hc2
    go_wp2
    exact bodyPost_ret (v := .tuple #[opv (0, 0, 0, 0), .bool false]) (by simp [results, Tryd.results8, go_sem, opv]) rfl ⟨hno', ((Fr.refl [] w).alloc _).alloc _⟩
end Go.Proofs.YtedenkghacbdeaaDoor.Ro
