/- Package op: the op of a number. -/
import Derived.Test.YtedenkghacbdeaaDoorScr
import Derived.Test.YtedenkghacbdeaaDoorNum
namespace Go.Proofs.YtedenkghacbdeaaDoor.Og
open Go.RowKit Go.Maps Go.Proofs.YtedenkghacbdeaaDoor.Ar
set_option linter.unusedVariables false
set_option linter.unusedSimpArgs false
def has (rs : List (List O)) (x : Int) : Bool := decide (0 ≤ thr x) && (decide (thr x < rs.length) && decide (ind x < (nthR rs (thr x).toNat).length))
def opAt (rs : List (List O)) (x : Int) : O := if has rs x then nthO (nthR rs (thr x).toNat) (ind x).toNat else (0, 0, 0, 0)
theorem ind_ok {x : Int} (h : 0 ≤ thr x) : 0 ≤ ind x := by unfold thr ind at *; split at h <;> split <;> omega
theorem ind_no {x : Int} (h : ¬ 0 ≤ thr x) : thr x = -1 ∧ ind x = -1 := by
  unfold thr ind at *
  split at h
  · omega
  · rename_i h'; rw [if_neg h', if_neg h']; exact ⟨rfl, rfl⟩
set_option maxHeartbeats 3200000 in
theorem at_any (t c wd v x : Int) (rs : List (List O)) (ps ds : List Int) (s : Value) (w : World) (h : Scr w s t c wd v rs ps ds) :
    Calls Tryd.prog 7 #[s, .int .i64 x] w fun e w' => e = .returned (.tuple #[opv (opAt rs x), .bool (has rs x)]) ∧ Fr [] w w' := by
  obtain ⟨vo, vp, vd, rfl, hr, hp, hd⟩ := h
  obtain ⟨a, cap, y, rfl, hl, hc, hrow⟩ := hr
  have HC := Lib.hid hc
  have HR := Lib.hid hrow
  clear hc hrow hp hd
  unfold maxLen at hl
  go_enter Tryd.func7, Tryd.ntmps7
  go_wp2_with fail
  refine (of_any x _).mono ?_; rintro e w' ⟨rfl, rfl⟩
  have hTI : 0 ≤ thr x → 0 ≤ ind x := ind_ok
  have hTN : ¬ 0 ≤ thr x → thr x = -1 ∧ ind x = -1 := ind_no
  have F := ((Fr.refl [] w).alloc (.cells #[.int .i64 t, .int .i64 c, .int .i64 wd, .int .i64 v, .slice a rs.length cap, vp, vd] 29)).alloc (.cells #[.int .i64 0, .int .i64 0, .int .i64 0, .int .i64 0] 23)
  generalize hT : thr x = T at *
  generalize hI : ind x = I at *
  have hno : has rs x = false → Ending.returned (.tuple #[opv (0, 0, 0, 0), .bool false]) = .returned (.tuple #[opv (opAt rs x), .bool (has rs x)]) := by
    intro e; unfold opAt; rw [e]; rfl
  by_cases hin : 0 ≤ T ∧ T < rs.length
  · have hI0 := hTI hin.1
    obtain ⟨n, rfl⟩ : ∃ n : Nat, T = n := ⟨T.toNat, by omega⟩
    obtain ⟨m, rfl⟩ : ∃ m : Nat, I = m := ⟨I.toNat, by omega⟩
    have hlt : n < rs.length := by omega
    rcases HC.out with hz | ⟨b, off, rfl, hb, hcell⟩
    · omega
    obtain ⟨a2, cap2, hxe, hl2, -, hc2⟩ := HR.out n hlt
    have d0 := cell_up F (hcell n hlt)
    rw [hxe] at d0
    clear hcell hxe HC hTI hTN
    have g : (decide (0 ≤ (n : Int)) && decide ((n : Int) < rs.length)) = true := by simp [hlt]
    go_wp2_with fail
    refine (below_any n rs.length _).mono ?_; rintro e w' ⟨rfl, rfl⟩
    rw [g]
    go_wp2_with fail
    refine (below_any m (nthR rs n).length _).mono ?_; rintro e w' ⟨rfl, rfl⟩
    by_cases hm : m < (nthR rs n).length
    · have g2 : (decide (0 ≤ (m : Int)) && decide ((m : Int) < (nthR rs n).length)) = true := by simp [hm]
      rw [g2]
      have hyes : has rs x = true := by unfold has; rw [hT, hI]; simp [hlt, hm]
      have hop : opAt rs x = nthO (nthR rs n) m := by unfold opAt; rw [hyes, hT, hI]; simp
      rcases hc2 with hz | ⟨b2, off2, rfl, hb2, hcell2⟩
      · omega
      obtain ⟨c0, c1, c2, c3⟩ := hcell2 m hm
      have e0 := cell_up F c0
      have e1 := cell_up F c1
      have e2 := cell_up F c2
      have e3 := cell_up F c3
      clear hcell2 c0 c1 c2 c3 hno
      have HY := Lib.hid (And.intro hyes hop)
      clear hyes hop
      go_wp2
      exact bodyPost_ret (v := .tuple #[opv (nthO (nthR rs n) m), .bool true]) (by simp [results, Tryd.results7, go_sem, opv]) rfl ⟨by rw [HY.out.1, HY.out.2], ((Fr.refl [] w).alloc _).alloc _⟩
    · have g2 : (decide (0 ≤ (m : Int)) && decide ((m : Int) < (nthR rs n).length)) = false := by simp [hm]
      rw [g2]
      have hnone : has rs x = false := by unfold has; rw [hT, hI]; simp [hm]
      have hno' := hno hnone
      clear hno hc2
      go_wp2
      exact bodyPost_ret (v := .tuple #[opv (0, 0, 0, 0), .bool false]) (by simp [results, Tryd.results7, go_sem, opv]) rfl ⟨hno', ((Fr.refl [] w).alloc _).alloc _⟩
  · have g : (decide (0 ≤ T) && decide (T < rs.length)) = false := by rw [← Bool.not_eq_true]; simp; omega
    have hnone : has rs x = false := by
      unfold has; rw [hT]
      cases h1 : decide (0 ≤ T) <;> cases h2 : decide (T < (rs.length : Int)) <;> simp_all
    have hno' := hno hnone
    clear hno
    go_wp2_with fail
    refine (below_any T rs.length _).mono ?_; rintro e w' ⟨rfl, rfl⟩
    rw [g]
    clear hTI hTN
    go_wp2
    exact bodyPost_ret (v := .tuple #[opv (0, 0, 0, 0), .bool false]) (by simp [results, Tryd.results7, go_sem, opv]) rfl ⟨hno', ((Fr.refl [] w).alloc _).alloc _⟩
end Go.Proofs.YtedenkghacbdeaaDoor.Og
