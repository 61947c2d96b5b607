/- Package op: whether two scripts are the same: all parts. -/
import Derived.Test.YtedenkghacbdeaaDoorSame
namespace Go.Proofs.YtedenkghacbdeaaDoor.Og
open Go.RowKit Go.Maps Go.Proofs.YtedenkghacbdeaaDoor.Ar
set_option linter.unusedVariables false
set_option linter.unusedSimpArgs false
def sameS (t c wd v t' c' wd' v' : Int) (rs rs' : List (List O)) (ps ps' ds ds' : List Int) : Bool := (t == t' && c == c' && wd == wd' && v == v') && (decide (rs = rs') && (decide (ps = ps') && decide (ds = ds')))
theorem c7 {w : World} {b : Nat} {t : TypeId} {x0 x1 x2 x3 x4 x5 x6 : Value} (h : w.heap[b]? = some (.cells #[x0, x1, x2, x3, x4, x5, x6] t (0, 0))) :
    w.cell? ⟨b, 0, none⟩ = some x0 ∧ w.cell? ⟨b, 1, none⟩ = some x1 ∧ w.cell? ⟨b, 2, none⟩ = some x2 ∧ w.cell? ⟨b, 3, none⟩ = some x3 ∧ w.cell? ⟨b, 4, none⟩ = some x4 ∧ w.cell? ⟨b, 5, none⟩ = some x5 ∧ w.cell? ⟨b, 6, none⟩ = some x6 :=
  ⟨by rw [cell_of_row _ _ _ _ _ _ h]; rfl, by rw [cell_of_row _ _ _ _ _ _ h]; rfl, by rw [cell_of_row _ _ _ _ _ _ h]; rfl, by rw [cell_of_row _ _ _ _ _ _ h]; rfl, by rw [cell_of_row _ _ _ _ _ _ h]; rfl, by rw [cell_of_row _ _ _ _ _ _ h]; rfl, by rw [cell_of_row _ _ _ _ _ _ h]; rfl⟩
theorem size_alloc (w : World) (o : Obj) : (w.alloc o).heap.size = w.heap.size + 1 := by unfold World.alloc; simp
set_option maxHeartbeats 3200000 in
theorem same_any (t c wd v t' c' wd' v' : Int) (rs rs' : List (List O)) (ps ps' ds ds' : List Int) (s s' : Value) (w : World) (h : Scr w s t c wd v rs ps ds) (h' : Scr w s' t' c' wd' v' rs' ps' ds') :
    Calls Tryd.prog 14 #[s, s'] w fun e w' => e = .returned (.bool (sameS t c wd v t' c' wd' v' rs rs' ps ps' ds ds')) ∧ Fr [] w w' := by
  obtain ⟨vo, vp, vd, rfl, hr, hp, hd⟩ := h
  obtain ⟨vo', vp', vd', rfl, hr', hp', hd'⟩ := h'
  have hG := confGuard
  have hq := conf_eql t c wd v t' c' wd' v'
  have hx : sameS t c wd v t' c' wd' v' rs rs' ps ps' ds ds' = ((t == t' && c == c' && wd == wd' && v == v') && (decide (rs = rs') && (decide (ps = ps') && decide (ds = ds')))) := rfl
  generalize (t == t' && c == c' && wd == wd' && v == v') = q at hq hx
  have G0 := ((Fr.refl [] w).alloc (.cells #[.int .i64 t, .int .i64 c, .int .i64 wd, .int .i64 v, vo, vp, vd] 29)).alloc (.cells #[.int .i64 t', .int .i64 c', .int .i64 wd', .int .i64 v', vo', vp', vd'] 29)
  have hb := ((Fr.refl [] (w.alloc (.cells #[.int .i64 t, .int .i64 c, .int .i64 wd, .int .i64 v, vo, vp, vd] 29))).alloc (.cells #[.int .i64 t', .int .i64 c', .int .i64 wd', .int .i64 v', vo', vp', vd'] 29)).heap (Go.heap_alloc_new w (.cells #[.int .i64 t, .int .i64 c, .int .i64 wd, .int .i64 v, vo, vp, vd] 29)) (by simp)
  have hb' := Go.heap_alloc_new (w.alloc (.cells #[.int .i64 t, .int .i64 c, .int .i64 wd, .int .i64 v, vo, vp, vd] 29)) (.cells #[.int .i64 t', .int .i64 c', .int .i64 wd', .int .i64 v', vo', vp', vd'] 29)
  have hsz : (w.alloc (.cells #[.int .i64 t, .int .i64 c, .int .i64 wd, .int .i64 v, vo, vp, vd] 29)).heap.size = w.heap.size + 1 := size_alloc w _
  rw [hsz] at hb'
  clear hsz
  go_enter Tryd.func14, Tryd.ntmps14
  cases q with
  | false =>
    go_wp2
    go_ret
    exact ⟨by rw [hx]; rfl, G0⟩
  | true =>
    go_wp2_with fail
    refine (eqRows_any rs rs' _ _ _ (hr.up G0) (hr'.up G0)).mono ?_; rintro e w1 ⟨rfl, F1⟩
    have hb1 := F1.heap hb (by simp)
    have hb1' := F1.heap hb' (by simp)
    have G1 := G0.trans F1
    clear hb hb' hq hG G0
    cases hrr : decide (rs = rs') with
    | false =>
      clear hb1 hb1'
      go_wp2
      go_ret
      exact ⟨by rw [hx, hrr]; rfl, G1⟩
    | true =>
      rw [hrr] at hx
      obtain ⟨c0, c1, c2, c3, c4, c5, c6⟩ := c7 hb1
      obtain ⟨d0, d1, d2, d3, d4, d5, d6⟩ := c7 hb1'
      have HB := Lib.hid hb1
      have HB' := Lib.hid hb1'
      clear hb1 hb1' c0 c1 c2 c3 c4 d0 d1 d2 d3 d4
      go_wp2_with fail
      refine (eqInts_any ps ps' _ _ _ (ints_up hp G1) (ints_up hp' G1)).mono ?_; rintro e w2 ⟨rfl, F2⟩
      have G2 := G1.trans F2
      obtain ⟨-, -, -, -, -, -, e6⟩ := c7 (F2.heap HB.out (by simp))
      obtain ⟨-, -, -, -, -, -, f6⟩ := c7 (F2.heap HB'.out (by simp))
      clear HB HB' c5 c6 d5 d6
      cases hpp : decide (ps = ps') with
      | false =>
        go_wp2
        go_ret
        exact ⟨by rw [hx, hpp]; rfl, G2⟩
      | true =>
        rw [hpp] at hx
        go_wp2_with fail
        refine (eqInts_any ds ds' _ _ _ (ints_up hd G2) (ints_up hd' G2)).mono ?_; rintro e w3 ⟨rfl, F3⟩
        have G3 := G2.trans F3
        clear e6 f6
        cases hdd : decide (ds = ds') with
        | false =>
          go_wp2
          go_ret
          exact ⟨by rw [hx, hdd]; rfl, G3⟩
        | true =>
          go_wp2
          go_ret
          exact ⟨by rw [hx, hdd]; rfl, G3⟩
end Go.Proofs.YtedenkghacbdeaaDoor.Og
