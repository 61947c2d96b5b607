/- Package op: what is wrong with a script. -/
import Derived.Test.YtedenkghacbdeaaDoorLarge
import Derived.Test.YtedenkghacbdeaaDoorAllFit
import Derived.Test.YtedenkghacbdeaaDoorErr
namespace Go.Proofs.YtedenkghacbdeaaDoor.Og
open Go.RowKit Go.Maps Go.Proofs.YtedenkghacbdeaaDoor.Ar
set_option linter.unusedVariables false
set_option linter.unusedSimpArgs false
/-- What is wrong with a script; 0: nothing. -/
def scode (t c wd v : Int) (rs : List (List O)) (ps : List Int) : Int := if Pl.code t c wd v = 0 then (if large t rs ps = true then 12 else if rs.all fitR = true then 0 else 10) else Pl.code t c wd v
theorem cells7 {w : World} {b : Nat} {t : TypeId} {x0 x1 x2 x3 x4 x5 x6 : Value} (h : w.heap[b]? = some (.cells #[x0, x1, x2, x3, x4, x5, x6] t (0, 0))) :
    w.cell? ⟨b, 0, none⟩ = some x0 ∧ w.cell? ⟨b, 1, none⟩ = some x1 ∧ w.cell? ⟨b, 2, none⟩ = some x2 ∧ w.cell? ⟨b, 3, none⟩ = some x3 ∧ w.cell? ⟨b, 4, none⟩ = some x4 ∧ w.cell? ⟨b, 5, none⟩ = some x5 ∧ w.cell? ⟨b, 6, none⟩ = some x6 :=
  ⟨by rw [cell_of_row _ _ _ _ _ _ h]; rfl, by rw [cell_of_row _ _ _ _ _ _ h]; rfl, by rw [cell_of_row _ _ _ _ _ _ h]; rfl, by rw [cell_of_row _ _ _ _ _ _ h]; rfl, by rw [cell_of_row _ _ _ _ _ _ h]; rfl, by rw [cell_of_row _ _ _ _ _ _ h]; rfl, by rw [cell_of_row _ _ _ _ _ _ h]; rfl⟩
theorem errv_some {n : Int} (h : n ≠ 0) : Pl.errv n = .iface 47 (.int .i64 n) := by rw [Pl.errv, if_neg h]
theorem errv_none : Pl.errv 0 = .nilIface := rfl
set_option maxHeartbeats 3200000 in
theorem script_any (t c wd v : Int) (rs : List (List O)) (ps ds : List Int) (s : Value) (w : World) (h : Scr w s t c wd v rs ps ds) :
    Calls Tryd.prog 12 #[s] w fun e w' => e = .returned (Pl.errv (scode t c wd v rs ps)) ∧ Fr [] w w' := by
  obtain ⟨vo, vp, vd, rfl, hr, hp, hd⟩ := h
  have iE := Er.isE
  go_enter Tryd.func12, Tryd.ntmps12
  go_wp2_with fail
  refine (Pl.is_any t c wd v _).mono ?_; rintro e w1 ⟨rfl, F1⟩
  have hb := F1.heap (Go.heap_alloc_new w (.cells #[.int .i64 t, .int .i64 c, .int .i64 wd, .int .i64 v, vo, vp, vd] 29)) (by simp)
  have G1 := ((Fr.refl [] w).alloc (.cells #[.int .i64 t, .int .i64 c, .int .i64 wd, .int .i64 v, vo, vp, vd] 29)).trans F1
  clear F1
  by_cases hcp : Pl.code t c wd v = 0
  · have hsc : scode t c wd v rs ps = if large t rs ps = true then 12 else if rs.all fitR = true then 0 else 10 := by rw [scode, if_pos hcp]
    rw [hcp, errv_none]
    clear hcp
    have HB := Lib.hid hb
    obtain ⟨c0, c1, c2, c3, c4, c5, c6⟩ := cells7 hb
    clear hb
    go_wp2_with fail
    refine (large_any t c wd v rs ps ds _ _ ⟨vo, vp, vd, rfl, hr.up G1, ints_up hp G1, ints_up hd G1⟩).mono ?_; rintro e w2 ⟨rfl, F2⟩
    have hb2 := F2.heap HB.out (by simp)
    have G2 := G1.trans F2
    clear c0 c1 c2 c3 c4 c5 c6 HB
    cases hlg : large t rs ps with
    | true =>
      rw [if_pos hlg] at hsc
      clear hb2
      go_wp2
      go_ret
      exact ⟨by rw [hsc]; rfl, G2⟩
    | false =>
      rw [if_neg (by simp [hlg])] at hsc
      obtain ⟨c0, c1, c2, c3, c4, c5, c6⟩ := cells7 hb2
      clear hb2
      go_wp2_with fail
      refine (allFit_any rs _ _ (hr.up G2)).mono ?_; rintro e w3 ⟨rfl, F3⟩
      have G3 := G2.trans F3
      clear c0 c1 c2 c3 c4 c5 c6
      cases hfi : rs.all fitR with
      | true =>
        rw [if_pos hfi] at hsc
        go_wp2
        go_ret
        exact ⟨by rw [hsc]; rfl, G3⟩
      | false =>
        rw [if_neg (by simp [hfi])] at hsc
        go_wp2
        go_ret
        exact ⟨by rw [hsc]; rfl, G3⟩
  · have hsc : scode t c wd v rs ps = Pl.code t c wd v := by rw [scode, if_neg hcp]
    have he := errv_some hcp
    have HE := Lib.hid (And.intro hsc he)
    rw [he]
    clear hb he hsc
    go_wp2
    go_ret
    exact ⟨by rw [HE.out.1, HE.out.2]; rfl, G1⟩
end Go.Proofs.YtedenkghacbdeaaDoor.Og
