/- The developers' lead, wherever it lies: each of its calls. -/
import Derived.Test.YtfchbbhopfganaaPb
import Derived.Test.YtfchbbhopfganaaPlace
import Derived.Test.YtfchbbhopfganaaW1
import Derived.Test.YtfchbbhopfganaaWord
import Derived.Test.YtfchbbhopfganaaEnvT
import Derived.Test.YtfchbbhopfganaaEnvCT
import Derived.RegionTactic
import Derived.Deep.RegionHeld3
import Derived.Deep.QuietTactic
namespace Go.Proofs.Ytfchbbhopfganaa.Le
open Go.RowKit Go.Proofs.Ytfchbbhopfganaa.Ar Go.Proofs.Ytfchbbhopfganaa.Mx
set_option linter.unusedVariables false
set_option linter.unusedSimpArgs false
/-- The developers' lead: the chunk, the draw, whether it drew, the line, what each line loaded. -/
structure Lx where
  ch : Int
  dr : Bool
  dw : Bool
  ln : Int
  f0 : Int
  f1 : Int
  f2 : Int
  f3 : Int
  f4 : Int
  f5 : Int
  f6 : Int
  f7 : Int
  f8 : Int
  f9 : Int
  f10 : Int
def Lx.cells (y : Lx) : Array Value := #[.int .i64 y.ch, .bool y.dr, .bool y.dw, .int .i64 y.ln, .int .i64 y.f0, .int .i64 y.f1, .int .i64 y.f2, .int .i64 y.f3, .int .i64 y.f4, .int .i64 y.f5, .int .i64 y.f6, .int .i64 y.f7, .int .i64 y.f8, .int .i64 y.f9, .int .i64 y.f10]
def LxAt (w : World) (b : Nat) (T : TypeId) (pre post : Array Value) (y : Lx) : Prop := Pb w b T pre post y.cells
def atL (a : Int) : Int := Word.un a / 2
def mkL (a : Int) : Bool := decide (a % 2 = 1)
theorem at_any (a : Int) (w : World) : Calls Try.prog 27 #[.int .i64 a] w fun e w' => e = .returned (.int .i64 (atL a)) ∧ w = w' :=
  (Word.at_any a w).mono (by rintro e w' ⟨rfl, rfl⟩; exact ⟨rfl, rfl⟩)
theorem marked_any (a : Int) (w : World) : Calls Try.prog 24 #[.int .i64 a] w fun e w' => e = .returned (.bool (mkL a)) ∧ w = w' :=
  (Word.marked_any a w).mono (by rintro e w' ⟨rfl, rfl⟩; exact ⟨rfl, rfl⟩)
/-- The chapter's n; the mate that it would choose. -/
def Lx.n (y : Lx) : Int := atL y.f2
def Lx.who (y : Lx) : Int := if y.dr = true ∧ y.n ≠ 0 then y.n else 1
/-- What an access does, what it tells; what is kept of it; the line behind it. -/
def Lx.act (y : Lx) (s : St) : St :=
  if y.ln = 0 then s.swap (wrap64 (y.ch + 3)) 0 y.ch else if y.ln = 1 then s.load (wrap64 (y.ch + 3)) else if y.ln = 2 then s.load (wrap64 (y.f1 + 2))
  else if y.ln = 3 then s.swap (wrap64 (y.f1 + 2)) y.f2 (wrap64 (y.f2 + 1)) else if y.ln = 4 then s.load (wrap64 (y.f1 + 4)) else if y.ln = 5 then s.swap (wrap64 (y.f1 + 4)) 0 y.who
  else if y.ln = 6 then s.load (wrap64 (y.f1 + 4)) else if y.ln = 7 then s.swap (wrap64 (y.n + 3)) 0 y.f1 else if y.ln = 8 then s.load (wrap64 (y.n + 3))
  else if y.ln = 9 then s.load (wrap64 (y.n + 2)) else s.swap (wrap64 (y.n + 2)) y.f9 (wrap64 (y.f9 + 1))
def Lx.told (y : Lx) (s : St) : Int :=
  if y.ln = 1 then peek s.l (wrap64 (y.ch + 3)) else if y.ln = 2 then peek s.l (wrap64 (y.f1 + 2)) else if y.ln = 4 ∨ y.ln = 6 then peek s.l (wrap64 (y.f1 + 4))
  else if y.ln = 8 then peek s.l (wrap64 (y.n + 3)) else if y.ln = 9 then peek s.l (wrap64 (y.n + 2)) else 0
def Lx.drow (y : Lx) : Lx := if y.ln = 5 then { y with dw := true } else y
def Lx.put (y : Lx) (v : Int) : Lx :=
  if y.ln = 0 then { y with f0 := v } else if y.ln = 1 then { y with f1 := v } else if y.ln = 2 then { y with f2 := v } else if y.ln = 3 then { y with f3 := v } else if y.ln = 4 then { y with f4 := v }
  else if y.ln = 5 then { y with f5 := v } else if y.ln = 6 then { y with f6 := v } else if y.ln = 7 then { y with f7 := v } else if y.ln = 8 then { y with f8 := v } else if y.ln = 9 then { y with f9 := v } else { y with f10 := v }
def Lx.mateL (y : Lx) (m : Int) : Int := if m = 1 ∨ y.n = 0 then 11 else 7
def Lx.behL (y : Lx) : Int :=
  if y.ln = 0 then 1 else if y.ln = 1 then 2 else if y.ln = 2 then (if mkL y.f2 = true then 4 else 3) else if y.ln = 3 then 2 else if y.ln = 4 then (if y.f4 = 0 then 5 else y.mateL y.f4) else if y.ln = 5 then 6
  else if y.ln = 6 then y.mateL y.f6 else if y.ln = 7 then 8 else if y.ln = 8 then (if y.f8 = y.f1 then 9 else 11) else if y.ln = 9 then (if mkL y.f9 = true then 11 else 10) else 9
def Lx.step (y : Lx) (s : St) : Lx := { y.drow.put (y.told s) with ln := (y.drow.put (y.told s)).behL }
section
variable {w : World} {b o p q : Nat} {T : TypeId} {pre post : Array Value} {y : Lx} {s : St}
theorem lx_cells (h : LxAt w b T pre post y) (ho : pre.size = o) : w.cell? ⟨b, o, none⟩ = some (.int .i64 y.ch) ∧ w.cell? ⟨b, o + 1, none⟩ = some (.bool y.dr) ∧ w.cell? ⟨b, o + 2, none⟩ = some (.bool y.dw) ∧ w.cell? ⟨b, o + 3, none⟩ = some (.int .i64 y.ln) ∧ w.cell? ⟨b, o + 4, none⟩ = some (.int .i64 y.f0) ∧ w.cell? ⟨b, o + 4 + 1, none⟩ = some (.int .i64 y.f1) ∧ w.cell? ⟨b, o + 4 + 2, none⟩ = some (.int .i64 y.f2) ∧ w.cell? ⟨b, o + 4 + 3, none⟩ = some (.int .i64 y.f3) ∧ w.cell? ⟨b, o + 4 + 4, none⟩ = some (.int .i64 y.f4) ∧ w.cell? ⟨b, o + 4 + 5, none⟩ = some (.int .i64 y.f5) ∧ w.cell? ⟨b, o + 4 + 6, none⟩ = some (.int .i64 y.f6) ∧ w.cell? ⟨b, o + 4 + 7, none⟩ = some (.int .i64 y.f7) ∧ w.cell? ⟨b, o + 4 + 8, none⟩ = some (.int .i64 y.f8) ∧ w.cell? ⟨b, o + 4 + 9, none⟩ = some (.int .i64 y.f9) ∧ w.cell? ⟨b, o + 4 + 10, none⟩ = some (.int .i64 y.f10) :=
  ⟨h.cell (i := 0) ho rfl, h.cell (i := 1) ho rfl, h.cell (i := 2) ho rfl, h.cell (i := 3) ho rfl, h.cell (i := 4) ho rfl, h.cell (i := 5) ho rfl, h.cell (i := 6) ho rfl, h.cell (i := 7) ho rfl, h.cell (i := 8) ho rfl, h.cell (i := 9) ho rfl, h.cell (i := 10) ho rfl, h.cell (i := 11) ho rfl, h.cell (i := 12) ho rfl, h.cell (i := 13) ho rfl, h.cell (i := 14) ho rfl⟩
theorem ldr_any (h : LxAt w b T pre post y) (ho : pre.size = o) : Calls Try.prog 25 #[.pointer (some ⟨b, o, none⟩)] w fun e w' => e = .returned (.int .i64 y.f1) ∧ w = w' := by
  obtain ⟨c0, c1, c2, c3, c4, c5, c6, c7, c8, c9, c10, c11, c12, c13, c14⟩ := lx_cells h ho
  clear c0 c1 c2 c3 c4 c6 c7 c8 c9 c10 c11 c12 c13 c14 h
  go_enter Try.func25, Try.ntmps25
  go_wp2
  go_ret
  exact ⟨rfl, rfl⟩
theorem nxt_any (h : LxAt w b T pre post y) (ho : pre.size = o) : Calls Try.prog 26 #[.pointer (some ⟨b, o, none⟩)] w fun e w' => e = .returned (.int .i64 y.n) ∧ w = w' := by
  obtain ⟨c0, c1, c2, c3, c4, c5, c6, c7, c8, c9, c10, c11, c12, c13, c14⟩ := lx_cells h ho
  clear c0 c1 c2 c3 c4 c5 c7 c8 c9 c10 c11 c12 c13 c14 h
  unfold Lx.n
  go_enter Try.func26, Try.ntmps26
  go_wp2_with fail
  refine (at_any _ _).mono ?_; rintro e _ ⟨rfl, rfl⟩
  go_wp2
  go_ret
  exact ⟨rfl, rfl⟩
theorem swm_any (c x : Int) (hA : Ar w p q s) : Calls Try.prog 33 #[.pointer (some ⟨p, 0, none⟩), .int .i64 c, .int .i64 x] w fun e w' => e = .returned (.tuple #[]) ∧ Ar w' p q (s.swap (wrap64 (c + 2)) x (wrap64 (x + 1))) ∧ Fr [p, q] w w' := by
  go_enter Try.func33, Try.ntmps33
  go_wp2_with fail
  refine (Ar.swap_any _ p q s _ _ _ hA).mono ?_; rintro e w4 ⟨rfl, A4, F4⟩
  go_wp2
  go_end0
  exact ⟨rfl, A4, F4⟩
theorem cho_any (h : LxAt w b T pre post y) (ho : pre.size = o) : Calls Try.prog 34 #[.pointer (some ⟨b, o, none⟩)] w fun e w' => e = .returned (.int .i64 y.who) ∧ w = w' := by
  obtain ⟨c0, c1, c2, c3, c4, c5, c6, c7, c8, c9, c10, c11, c12, c13, c14⟩ := lx_cells h ho
  have HN := Lib.hid (nxt_any h ho)
  clear c0 c2 c3 c4 c5 c6 c7 c8 c9 c10 c11 c12 c13 c14 h
  unfold Lx.who
  generalize y.n = n at *
  by_cases e1 : y.dr = true
  · rw [e1] at c1
    by_cases e2 : n = 0
    · subst e2
      rw [if_neg (by simp)]
      clear e1
      go_enter Try.func34, Try.ntmps34
      go_wp2_with fail
      refine HN.out.mono ?_; rintro e _ ⟨rfl, rfl⟩
      go_wp2
      go_ret
      exact ⟨rfl, rfl⟩
    · rw [if_pos ⟨e1, e2⟩]
      have g : (n != 0) = true := by simpa using e2
      clear e1 e2
      go_enter Try.func34, Try.ntmps34
      go_wp2_with fail
      refine HN.out.mono ?_; rintro e _ ⟨rfl, rfl⟩
      go_wp2_with fail
      refine HN.out.mono ?_; rintro e _ ⟨rfl, rfl⟩
      go_wp2
      go_ret
      exact ⟨rfl, rfl⟩
  · rw [if_neg (fun k => e1 k.1)]
    rw [Bool.not_eq_true] at e1
    rw [e1] at c1
    clear e1
    go_enter Try.func34, Try.ntmps34
    go_wp2
    go_ret
    exact ⟨rfl, rfl⟩
theorem bem_any (m : Int) (h : LxAt w b T pre post y) (ho : pre.size = o) : Calls Try.prog 35 #[.pointer (some ⟨b, o, none⟩), .int .i64 m] w fun e w' => e = .returned (.int .i64 (y.mateL m)) ∧ w = w' := by
  have HN := Lib.hid (nxt_any h ho)
  clear h
  unfold Lx.mateL
  generalize y.n = n at *
  by_cases e1 : m = 1
  · rw [if_pos (.inl e1)]
    subst e1
    go_enter Try.func35, Try.ntmps35
    go_wp2
    go_ret
    exact ⟨rfl, rfl⟩
  · have g1 : (m == 1) = false := by simpa using e1
    by_cases e2 : n = 0
    · rw [if_pos (.inr e2)]
      subst e2
      clear e1
      go_enter Try.func35, Try.ntmps35
      go_wp2_with fail
      refine HN.out.mono ?_; rintro e _ ⟨rfl, rfl⟩
      go_wp2
      go_ret
      exact ⟨rfl, rfl⟩
    · rw [if_neg (by rintro (k | k); exact e1 k; exact e2 k)]
      have g2 : (n == 0) = false := by simpa using e2
      clear e1 e2
      go_enter Try.func35, Try.ntmps35
      go_wp2_with fail
      refine HN.out.mono ?_; rintro e _ ⟨rfl, rfl⟩
      go_wp2
      go_ret
      exact ⟨rfl, rfl⟩
set_option maxRecDepth 100000 in
theorem beh0 (hl : y.ln = 0) (h : LxAt w b T pre post y) (ho : pre.size = o) : Calls Try.prog 23 #[.pointer (some ⟨b, o, none⟩)] w fun e w' => e = .returned (.int .i64 y.behL) ∧ Fr [] w w' := by
  obtain ⟨c0, c1, c2, c3, c4, c5, c6, c7, c8, c9, c10, c11, c12, c13, c14⟩ := lx_cells h ho
  have k3 := In.cell c3
  have kf := In.cell c4
  rw [hl] at k3
  have HM := Lib.hid (fun (wz : World) (Fz : Fr [] w wz) (m : Int) => bem_any m (Pb.up h Fz) ho)
  have HL := Lib.hid (fun (wz : World) (Fz : Fr [] w wz) => ldr_any (Pb.up h Fz) ho)
  have HC := Lib.hid (fun (wz : World) (Fz : Fr [] w wz) => (And.intro (Pb.up h Fz) hl))
  have HO := Lib.hid ho
  unfold Lx.behL
  simp only [hl]
  clear h hl ho c0 c1 c2 c3 c4 c5 c6 c7 c8 c9 c10 c11 c12 c13 c14
  simp only [Int.reduceEq, if_true, if_false]
  generalize y.f0 = v at *
  go_enter Try.func23, Try.ntmps23
  go_wp2_with fail
  refine wp_region_in (by kernel_rfl) (by kernel_rfl) ?_
  repeat (go_big_quiet_step (fail))
  refine wpQuiet_nil ?_
  intro w2 F2
  clear k3 kf
  obtain ⟨h2, hl2⟩ := HC.out w2 F2
  obtain ⟨c0, c1, c2, c3, c4, c5, c6, c7, c8, c9, c10, c11, c12, c13, c14⟩ := lx_cells h2 HO.out
  rw [hl2] at c3
  clear h2 hl2 c0 c1 c2 c4 c5 c6 c7 c8 c9 c10 c11 c12 c13 c14
  go_wp2
  go_ret
  exact ⟨rfl, F2⟩
set_option maxRecDepth 100000 in
theorem beh1 (hl : y.ln = 1) (h : LxAt w b T pre post y) (ho : pre.size = o) : Calls Try.prog 23 #[.pointer (some ⟨b, o, none⟩)] w fun e w' => e = .returned (.int .i64 y.behL) ∧ Fr [] w w' := by
  obtain ⟨c0, c1, c2, c3, c4, c5, c6, c7, c8, c9, c10, c11, c12, c13, c14⟩ := lx_cells h ho
  have k3 := In.cell c3
  have kf := In.cell c5
  rw [hl] at k3
  have HM := Lib.hid (fun (wz : World) (Fz : Fr [] w wz) (m : Int) => bem_any m (Pb.up h Fz) ho)
  have HL := Lib.hid (fun (wz : World) (Fz : Fr [] w wz) => ldr_any (Pb.up h Fz) ho)
  have HC := Lib.hid (fun (wz : World) (Fz : Fr [] w wz) => (And.intro (Pb.up h Fz) hl))
  have HO := Lib.hid ho
  unfold Lx.behL
  simp only [hl]
  clear h hl ho c0 c1 c2 c3 c4 c5 c6 c7 c8 c9 c10 c11 c12 c13 c14
  simp only [Int.reduceEq, if_true, if_false]
  generalize y.f1 = v at *
  go_enter Try.func23, Try.ntmps23
  go_wp2_with fail
  refine wp_region_in (by kernel_rfl) (by kernel_rfl) ?_
  repeat (go_big_quiet_step (fail))
  refine wpQuiet_nil ?_
  intro w2 F2
  clear k3 kf
  obtain ⟨h2, hl2⟩ := HC.out w2 F2
  obtain ⟨c0, c1, c2, c3, c4, c5, c6, c7, c8, c9, c10, c11, c12, c13, c14⟩ := lx_cells h2 HO.out
  rw [hl2] at c3
  clear h2 hl2 c0 c1 c2 c4 c5 c6 c7 c8 c9 c10 c11 c12 c13 c14
  go_wp2
  go_ret
  exact ⟨rfl, F2⟩
set_option maxRecDepth 100000 in
theorem beh3 (hl : y.ln = 3) (h : LxAt w b T pre post y) (ho : pre.size = o) : Calls Try.prog 23 #[.pointer (some ⟨b, o, none⟩)] w fun e w' => e = .returned (.int .i64 y.behL) ∧ Fr [] w w' := by
  obtain ⟨c0, c1, c2, c3, c4, c5, c6, c7, c8, c9, c10, c11, c12, c13, c14⟩ := lx_cells h ho
  have k3 := In.cell c3
  have kf := In.cell c7
  rw [hl] at k3
  have HM := Lib.hid (fun (wz : World) (Fz : Fr [] w wz) (m : Int) => bem_any m (Pb.up h Fz) ho)
  have HL := Lib.hid (fun (wz : World) (Fz : Fr [] w wz) => ldr_any (Pb.up h Fz) ho)
  have HC := Lib.hid (fun (wz : World) (Fz : Fr [] w wz) => (And.intro (Pb.up h Fz) hl))
  have HO := Lib.hid ho
  unfold Lx.behL
  simp only [hl]
  clear h hl ho c0 c1 c2 c3 c4 c5 c6 c7 c8 c9 c10 c11 c12 c13 c14
  simp only [Int.reduceEq, if_true, if_false]
  generalize y.f3 = v at *
  go_enter Try.func23, Try.ntmps23
  go_wp2_with fail
  refine wp_region_in (by kernel_rfl) (by kernel_rfl) ?_
  repeat (go_big_quiet_step (fail))
  refine wpQuiet_nil ?_
  intro w2 F2
  clear k3 kf
  obtain ⟨h2, hl2⟩ := HC.out w2 F2
  obtain ⟨c0, c1, c2, c3, c4, c5, c6, c7, c8, c9, c10, c11, c12, c13, c14⟩ := lx_cells h2 HO.out
  rw [hl2] at c3
  clear h2 hl2 c0 c1 c2 c4 c5 c6 c7 c8 c9 c10 c11 c12 c13 c14
  go_wp2
  go_ret
  exact ⟨rfl, F2⟩
set_option maxRecDepth 100000 in
theorem beh5 (hl : y.ln = 5) (h : LxAt w b T pre post y) (ho : pre.size = o) : Calls Try.prog 23 #[.pointer (some ⟨b, o, none⟩)] w fun e w' => e = .returned (.int .i64 y.behL) ∧ Fr [] w w' := by
  obtain ⟨c0, c1, c2, c3, c4, c5, c6, c7, c8, c9, c10, c11, c12, c13, c14⟩ := lx_cells h ho
  have k3 := In.cell c3
  have kf := In.cell c9
  rw [hl] at k3
  have HM := Lib.hid (fun (wz : World) (Fz : Fr [] w wz) (m : Int) => bem_any m (Pb.up h Fz) ho)
  have HL := Lib.hid (fun (wz : World) (Fz : Fr [] w wz) => ldr_any (Pb.up h Fz) ho)
  have HC := Lib.hid (fun (wz : World) (Fz : Fr [] w wz) => (And.intro (Pb.up h Fz) hl))
  have HO := Lib.hid ho
  unfold Lx.behL
  simp only [hl]
  clear h hl ho c0 c1 c2 c3 c4 c5 c6 c7 c8 c9 c10 c11 c12 c13 c14
  simp only [Int.reduceEq, if_true, if_false]
  generalize y.f5 = v at *
  go_enter Try.func23, Try.ntmps23
  go_wp2_with fail
  refine wp_region_in (by kernel_rfl) (by kernel_rfl) ?_
  repeat (go_big_quiet_step (fail))
  refine wpQuiet_nil ?_
  intro w2 F2
  clear k3 kf
  obtain ⟨h2, hl2⟩ := HC.out w2 F2
  obtain ⟨c0, c1, c2, c3, c4, c5, c6, c7, c8, c9, c10, c11, c12, c13, c14⟩ := lx_cells h2 HO.out
  rw [hl2] at c3
  clear h2 hl2 c0 c1 c2 c4 c5 c6 c7 c8 c9 c10 c11 c12 c13 c14
  go_wp2
  go_ret
  exact ⟨rfl, F2⟩
set_option maxRecDepth 100000 in
theorem beh7 (hl : y.ln = 7) (h : LxAt w b T pre post y) (ho : pre.size = o) : Calls Try.prog 23 #[.pointer (some ⟨b, o, none⟩)] w fun e w' => e = .returned (.int .i64 y.behL) ∧ Fr [] w w' := by
  obtain ⟨c0, c1, c2, c3, c4, c5, c6, c7, c8, c9, c10, c11, c12, c13, c14⟩ := lx_cells h ho
  have k3 := In.cell c3
  have kf := In.cell c11
  rw [hl] at k3
  have HM := Lib.hid (fun (wz : World) (Fz : Fr [] w wz) (m : Int) => bem_any m (Pb.up h Fz) ho)
  have HL := Lib.hid (fun (wz : World) (Fz : Fr [] w wz) => ldr_any (Pb.up h Fz) ho)
  have HC := Lib.hid (fun (wz : World) (Fz : Fr [] w wz) => (And.intro (Pb.up h Fz) hl))
  have HO := Lib.hid ho
  unfold Lx.behL
  simp only [hl]
  clear h hl ho c0 c1 c2 c3 c4 c5 c6 c7 c8 c9 c10 c11 c12 c13 c14
  simp only [Int.reduceEq, if_true, if_false]
  generalize y.f7 = v at *
  go_enter Try.func23, Try.ntmps23
  go_wp2_with fail
  refine wp_region_in (by kernel_rfl) (by kernel_rfl) ?_
  repeat (go_big_quiet_step (fail))
  refine wpQuiet_nil ?_
  intro w2 F2
  clear k3 kf
  obtain ⟨h2, hl2⟩ := HC.out w2 F2
  obtain ⟨c0, c1, c2, c3, c4, c5, c6, c7, c8, c9, c10, c11, c12, c13, c14⟩ := lx_cells h2 HO.out
  rw [hl2] at c3
  clear h2 hl2 c0 c1 c2 c4 c5 c6 c7 c8 c9 c10 c11 c12 c13 c14
  go_wp2
  go_ret
  exact ⟨rfl, F2⟩
set_option maxRecDepth 100000 in
theorem beh10 (hl : y.ln = 10) (h : LxAt w b T pre post y) (ho : pre.size = o) : Calls Try.prog 23 #[.pointer (some ⟨b, o, none⟩)] w fun e w' => e = .returned (.int .i64 y.behL) ∧ Fr [] w w' := by
  obtain ⟨c0, c1, c2, c3, c4, c5, c6, c7, c8, c9, c10, c11, c12, c13, c14⟩ := lx_cells h ho
  have k3 := In.cell c3
  have kf := In.cell c14
  rw [hl] at k3
  have HM := Lib.hid (fun (wz : World) (Fz : Fr [] w wz) (m : Int) => bem_any m (Pb.up h Fz) ho)
  have HL := Lib.hid (fun (wz : World) (Fz : Fr [] w wz) => ldr_any (Pb.up h Fz) ho)
  have HC := Lib.hid (fun (wz : World) (Fz : Fr [] w wz) => (And.intro (Pb.up h Fz) hl))
  have HO := Lib.hid ho
  unfold Lx.behL
  simp only [hl]
  clear h hl ho c0 c1 c2 c3 c4 c5 c6 c7 c8 c9 c10 c11 c12 c13 c14
  simp only [Int.reduceEq, if_true, if_false]
  generalize y.f10 = v at *
  go_enter Try.func23, Try.ntmps23
  go_wp2_with fail
  refine wp_region_in (by kernel_rfl) (by kernel_rfl) ?_
  repeat (go_big_quiet_step (fail))
  refine wpQuiet_nil ?_
  intro w2 F2
  clear k3 kf
  obtain ⟨h2, hl2⟩ := HC.out w2 F2
  obtain ⟨c0, c1, c2, c3, c4, c5, c6, c7, c8, c9, c10, c11, c12, c13, c14⟩ := lx_cells h2 HO.out
  rw [hl2] at c3
  clear h2 hl2 c0 c1 c2 c4 c5 c6 c7 c8 c9 c10 c11 c12 c13 c14
  go_wp2
  go_ret
  exact ⟨rfl, F2⟩
set_option maxRecDepth 100000 in
theorem beh2 (hl : y.ln = 2) (h : LxAt w b T pre post y) (ho : pre.size = o) : Calls Try.prog 23 #[.pointer (some ⟨b, o, none⟩)] w fun e w' => e = .returned (.int .i64 y.behL) ∧ Fr [] w w' := by
  obtain ⟨c0, c1, c2, c3, c4, c5, c6, c7, c8, c9, c10, c11, c12, c13, c14⟩ := lx_cells h ho
  have k3 := In.cell c3
  have kf := In.cell c6
  rw [hl] at k3
  have HM := Lib.hid (fun (wz : World) (Fz : Fr [] w wz) (m : Int) => bem_any m (Pb.up h Fz) ho)
  have HL := Lib.hid (fun (wz : World) (Fz : Fr [] w wz) => ldr_any (Pb.up h Fz) ho)
  have HC := Lib.hid (fun (wz : World) (Fz : Fr [] w wz) => (And.intro (Pb.up h Fz) hl))
  have HO := Lib.hid ho
  unfold Lx.behL
  simp only [hl]
  clear h hl ho c0 c1 c2 c3 c4 c5 c6 c7 c8 c9 c10 c11 c12 c13 c14
  simp only [Int.reduceEq, if_true, if_false]
  generalize y.f2 = v at *
  cases g : mkL v
  · rw [if_neg (by decide)]
    go_enter Try.func23, Try.ntmps23
    go_wp2_with fail
    refine wp_region_in (by kernel_rfl) (by kernel_rfl) ?_
    repeat (go_big_quiet_step (fail))
    refine wpQuiet_nil ?_
    intro w2 F2
    clear k3 kf
    obtain ⟨h2, hl2⟩ := HC.out w2 F2
    obtain ⟨c0, c1, c2, c3, c4, c5, c6, c7, c8, c9, c10, c11, c12, c13, c14⟩ := lx_cells h2 HO.out
    rw [hl2] at c3
    clear h2 hl2 c0 c1 c2 c4 c5 c6 c7 c8 c9 c10 c11 c12 c13 c14
    go_wp2_with fail
    refine (marked_any _ _).mono ?_; rintro e _ ⟨rfl, rfl⟩
    rw [g]
    go_wp2
    go_ret
    exact ⟨rfl, F2⟩
  · rw [if_pos (by decide)]
    go_enter Try.func23, Try.ntmps23
    go_wp2_with fail
    refine wp_region_in (by kernel_rfl) (by kernel_rfl) ?_
    repeat (go_big_quiet_step (fail))
    refine wpQuiet_nil ?_
    intro w2 F2
    clear k3 kf
    obtain ⟨h2, hl2⟩ := HC.out w2 F2
    obtain ⟨c0, c1, c2, c3, c4, c5, c6, c7, c8, c9, c10, c11, c12, c13, c14⟩ := lx_cells h2 HO.out
    rw [hl2] at c3
    clear h2 hl2 c0 c1 c2 c4 c5 c6 c7 c8 c9 c10 c11 c12 c13 c14
    go_wp2_with fail
    refine (marked_any _ _).mono ?_; rintro e _ ⟨rfl, rfl⟩
    rw [g]
    go_wp2
    go_ret
    exact ⟨rfl, F2⟩
set_option maxRecDepth 100000 in
theorem beh9 (hl : y.ln = 9) (h : LxAt w b T pre post y) (ho : pre.size = o) : Calls Try.prog 23 #[.pointer (some ⟨b, o, none⟩)] w fun e w' => e = .returned (.int .i64 y.behL) ∧ Fr [] w w' := by
  obtain ⟨c0, c1, c2, c3, c4, c5, c6, c7, c8, c9, c10, c11, c12, c13, c14⟩ := lx_cells h ho
  have k3 := In.cell c3
  have kf := In.cell c13
  rw [hl] at k3
  have HM := Lib.hid (fun (wz : World) (Fz : Fr [] w wz) (m : Int) => bem_any m (Pb.up h Fz) ho)
  have HL := Lib.hid (fun (wz : World) (Fz : Fr [] w wz) => ldr_any (Pb.up h Fz) ho)
  have HC := Lib.hid (fun (wz : World) (Fz : Fr [] w wz) => (And.intro (Pb.up h Fz) hl))
  have HO := Lib.hid ho
  unfold Lx.behL
  simp only [hl]
  clear h hl ho c0 c1 c2 c3 c4 c5 c6 c7 c8 c9 c10 c11 c12 c13 c14
  simp only [Int.reduceEq, if_true, if_false]
  generalize y.f9 = v at *
  cases g : mkL v
  · rw [if_neg (by decide)]
    go_enter Try.func23, Try.ntmps23
    go_wp2_with fail
    refine wp_region_in (by kernel_rfl) (by kernel_rfl) ?_
    repeat (go_big_quiet_step (fail))
    refine wpQuiet_nil ?_
    intro w2 F2
    clear k3 kf
    obtain ⟨h2, hl2⟩ := HC.out w2 F2
    obtain ⟨c0, c1, c2, c3, c4, c5, c6, c7, c8, c9, c10, c11, c12, c13, c14⟩ := lx_cells h2 HO.out
    rw [hl2] at c3
    clear h2 hl2 c0 c1 c2 c4 c5 c6 c7 c8 c9 c10 c11 c12 c13 c14
    go_wp2_with fail
    refine (marked_any _ _).mono ?_; rintro e _ ⟨rfl, rfl⟩
    rw [g]
    go_wp2
    go_ret
    exact ⟨rfl, F2⟩
  · rw [if_pos (by decide)]
    go_enter Try.func23, Try.ntmps23
    go_wp2_with fail
    refine wp_region_in (by kernel_rfl) (by kernel_rfl) ?_
    repeat (go_big_quiet_step (fail))
    refine wpQuiet_nil ?_
    intro w2 F2
    clear k3 kf
    obtain ⟨h2, hl2⟩ := HC.out w2 F2
    obtain ⟨c0, c1, c2, c3, c4, c5, c6, c7, c8, c9, c10, c11, c12, c13, c14⟩ := lx_cells h2 HO.out
    rw [hl2] at c3
    clear h2 hl2 c0 c1 c2 c4 c5 c6 c7 c8 c9 c10 c11 c12 c13 c14
    go_wp2_with fail
    refine (marked_any _ _).mono ?_; rintro e _ ⟨rfl, rfl⟩
    rw [g]
    go_wp2
    go_ret
    exact ⟨rfl, F2⟩
set_option maxRecDepth 100000 in
theorem beh4 (hl : y.ln = 4) (h : LxAt w b T pre post y) (ho : pre.size = o) : Calls Try.prog 23 #[.pointer (some ⟨b, o, none⟩)] w fun e w' => e = .returned (.int .i64 y.behL) ∧ Fr [] w w' := by
  obtain ⟨c0, c1, c2, c3, c4, c5, c6, c7, c8, c9, c10, c11, c12, c13, c14⟩ := lx_cells h ho
  have k3 := In.cell c3
  have kf := In.cell c8
  rw [hl] at k3
  have HM := Lib.hid (fun (wz : World) (Fz : Fr [] w wz) (m : Int) => bem_any m (Pb.up h Fz) ho)
  have HL := Lib.hid (fun (wz : World) (Fz : Fr [] w wz) => ldr_any (Pb.up h Fz) ho)
  have HC := Lib.hid (fun (wz : World) (Fz : Fr [] w wz) => (And.intro (Pb.up h Fz) hl))
  have HO := Lib.hid ho
  unfold Lx.behL
  simp only [hl]
  clear h hl ho c0 c1 c2 c3 c4 c5 c6 c7 c8 c9 c10 c11 c12 c13 c14
  simp only [Int.reduceEq, if_true, if_false]
  generalize y.f4 = v at *
  have HM := Lib.hid (HM.out · · v)
  generalize y.mateL v = vm at *
  by_cases g : v = 0
  · rw [if_pos g]
    subst g
    go_enter Try.func23, Try.ntmps23
    go_wp2_with fail
    refine wp_region_in (by kernel_rfl) (by kernel_rfl) ?_
    repeat (go_big_quiet_step (fail))
    refine wpQuiet_nil ?_
    intro w2 F2
    clear k3 kf
    obtain ⟨h2, hl2⟩ := HC.out w2 F2
    obtain ⟨c0, c1, c2, c3, c4, c5, c6, c7, c8, c9, c10, c11, c12, c13, c14⟩ := lx_cells h2 HO.out
    rw [hl2] at c3
    clear h2 hl2 c0 c1 c2 c4 c5 c6 c7 c8 c9 c10 c11 c12 c13 c14
    go_wp2
    go_ret
    exact ⟨rfl, F2⟩
  · rw [if_neg g]
    have g1 : (v != 0) = true := by simpa using g
    clear g
    go_enter Try.func23, Try.ntmps23
    go_wp2_with fail
    refine wp_region_in (by kernel_rfl) (by kernel_rfl) ?_
    repeat (go_big_quiet_step (fail))
    refine wpQuiet_nil ?_
    intro w2 F2
    clear k3 kf
    obtain ⟨h2, hl2⟩ := HC.out w2 F2
    obtain ⟨c0, c1, c2, c3, c4, c5, c6, c7, c8, c9, c10, c11, c12, c13, c14⟩ := lx_cells h2 HO.out
    rw [hl2] at c3
    clear h2 hl2 c0 c1 c2 c4 c5 c6 c7 c8 c9 c10 c11 c12 c13 c14
    go_wp2_with fail
    refine (HM.out _ F2).mono ?_; rintro e _ ⟨rfl, rfl⟩
    go_wp2
    go_ret
    exact ⟨rfl, F2⟩
set_option maxRecDepth 100000 in
theorem beh6 (hl : y.ln = 6) (h : LxAt w b T pre post y) (ho : pre.size = o) : Calls Try.prog 23 #[.pointer (some ⟨b, o, none⟩)] w fun e w' => e = .returned (.int .i64 y.behL) ∧ Fr [] w w' := by
  obtain ⟨c0, c1, c2, c3, c4, c5, c6, c7, c8, c9, c10, c11, c12, c13, c14⟩ := lx_cells h ho
  have k3 := In.cell c3
  have kf := In.cell c10
  rw [hl] at k3
  have HM := Lib.hid (fun (wz : World) (Fz : Fr [] w wz) (m : Int) => bem_any m (Pb.up h Fz) ho)
  have HL := Lib.hid (fun (wz : World) (Fz : Fr [] w wz) => ldr_any (Pb.up h Fz) ho)
  have HC := Lib.hid (fun (wz : World) (Fz : Fr [] w wz) => (And.intro (Pb.up h Fz) hl))
  have HO := Lib.hid ho
  unfold Lx.behL
  simp only [hl]
  clear h hl ho c0 c1 c2 c3 c4 c5 c6 c7 c8 c9 c10 c11 c12 c13 c14
  simp only [Int.reduceEq, if_true, if_false]
  generalize y.f6 = v at *
  go_enter Try.func23, Try.ntmps23
  go_wp2_with fail
  refine wp_region_in (by kernel_rfl) (by kernel_rfl) ?_
  repeat (go_big_quiet_step (fail))
  refine wpQuiet_nil ?_
  intro w2 F2
  clear k3 kf
  obtain ⟨h2, hl2⟩ := HC.out w2 F2
  obtain ⟨c0, c1, c2, c3, c4, c5, c6, c7, c8, c9, c10, c11, c12, c13, c14⟩ := lx_cells h2 HO.out
  rw [hl2] at c3
  clear h2 hl2 c0 c1 c2 c4 c5 c6 c7 c8 c9 c10 c11 c12 c13 c14
  go_wp2_with fail
  refine (HM.out _ F2 _).mono ?_; rintro e _ ⟨rfl, rfl⟩
  go_wp2
  go_ret
  exact ⟨rfl, F2⟩
set_option maxRecDepth 100000 in
theorem beh8 (hl : y.ln = 8) (h : LxAt w b T pre post y) (ho : pre.size = o) : Calls Try.prog 23 #[.pointer (some ⟨b, o, none⟩)] w fun e w' => e = .returned (.int .i64 y.behL) ∧ Fr [] w w' := by
  obtain ⟨c0, c1, c2, c3, c4, c5, c6, c7, c8, c9, c10, c11, c12, c13, c14⟩ := lx_cells h ho
  have k3 := In.cell c3
  have kf := In.cell c12
  rw [hl] at k3
  have HM := Lib.hid (fun (wz : World) (Fz : Fr [] w wz) (m : Int) => bem_any m (Pb.up h Fz) ho)
  have HL := Lib.hid (fun (wz : World) (Fz : Fr [] w wz) => ldr_any (Pb.up h Fz) ho)
  have HC := Lib.hid (fun (wz : World) (Fz : Fr [] w wz) => (And.intro (Pb.up h Fz) hl))
  have HO := Lib.hid ho
  unfold Lx.behL
  simp only [hl]
  clear h hl ho c0 c1 c2 c3 c4 c5 c6 c7 c8 c9 c10 c11 c12 c13 c14
  simp only [Int.reduceEq, if_true, if_false]
  generalize y.f8 = v at *
  generalize y.f1 = v1 at *
  by_cases g : v = v1
  · rw [if_pos g]
    have g1 : (v != v1) = false := by simpa using g
    clear g
    go_enter Try.func23, Try.ntmps23
    go_wp2_with fail
    refine wp_region_in (by kernel_rfl) (by kernel_rfl) ?_
    repeat (go_big_quiet_step (fail))
    refine wpQuiet_nil ?_
    intro w2 F2
    clear k3 kf
    obtain ⟨h2, hl2⟩ := HC.out w2 F2
    obtain ⟨c0, c1, c2, c3, c4, c5, c6, c7, c8, c9, c10, c11, c12, c13, c14⟩ := lx_cells h2 HO.out
    rw [hl2] at c3
    clear h2 hl2 c0 c1 c2 c4 c5 c6 c7 c8 c9 c10 c11 c12 c13 c14
    go_wp2_with fail
    refine (HL.out _ F2).mono ?_; rintro e _ ⟨rfl, rfl⟩
    go_wp2
    go_ret
    exact ⟨rfl, F2⟩
  · rw [if_neg g]
    have g1 : (v != v1) = true := by simpa using g
    clear g
    go_enter Try.func23, Try.ntmps23
    go_wp2_with fail
    refine wp_region_in (by kernel_rfl) (by kernel_rfl) ?_
    repeat (go_big_quiet_step (fail))
    refine wpQuiet_nil ?_
    intro w2 F2
    clear k3 kf
    obtain ⟨h2, hl2⟩ := HC.out w2 F2
    obtain ⟨c0, c1, c2, c3, c4, c5, c6, c7, c8, c9, c10, c11, c12, c13, c14⟩ := lx_cells h2 HO.out
    rw [hl2] at c3
    clear h2 hl2 c0 c1 c2 c4 c5 c6 c7 c8 c9 c10 c11 c12 c13 c14
    go_wp2_with fail
    refine (HL.out _ F2).mono ?_; rintro e _ ⟨rfl, rfl⟩
    go_wp2
    go_ret
    exact ⟨rfl, F2⟩
theorem beh_any (hl : 0 ≤ y.ln ∧ y.ln ≤ 10) (h : LxAt w b T pre post y) (ho : pre.size = o) : Calls Try.prog 23 #[.pointer (some ⟨b, o, none⟩)] w fun e w' => e = .returned (.int .i64 y.behL) ∧ Fr [] w w' := by
  rcases (by omega : y.ln = 0 ∨ y.ln = 1 ∨ y.ln = 2 ∨ y.ln = 3 ∨ y.ln = 4 ∨ y.ln = 5 ∨ y.ln = 6 ∨ y.ln = 7 ∨ y.ln = 8 ∨ y.ln = 9 ∨ y.ln = 10) with e | e | e | e | e | e | e | e | e | e | e
  · exact beh0 e h ho
  · exact beh1 e h ho
  · exact beh2 e h ho
  · exact beh3 e h ho
  · exact beh4 e h ho
  · exact beh5 e h ho
  · exact beh6 e h ho
  · exact beh7 e h ho
  · exact beh8 e h ho
  · exact beh9 e h ho
  · exact beh10 e h ho
def PostA (w : World) (b p q : Nat) (T : TypeId) (pre post : Array Value) (y : Lx) (s : St) (e : Ending) (w' : World) : Prop := e = .returned (.int .i64 (y.told s)) ∧ LxAt w' b T pre post y.drow ∧ Ar w' p q (y.act s) ∧ Fr [b, p, q] w w'
set_option maxRecDepth 100000 in
theorem acc0 (hl : y.ln = 0) (h : LxAt w b T pre post y) (ho : pre.size = o) (hA : Ar w p q s) (hne : b ≠ p ∧ b ≠ q) : Calls Try.prog 22 #[.pointer (some ⟨b, o, none⟩), .pointer (some ⟨p, 0, none⟩)] w (PostA w b p q T pre post y s) := by
  unfold PostA
  obtain ⟨c0, c1, c2, c3, c4, c5, c6, c7, c8, c9, c10, c11, c12, c13, c14⟩ := lx_cells h ho
  have HH := Lib.hid h
  have HNE := Lib.hid hne
  have HL := Lib.hid (fun (wz : World) (Fz : Fr [] w wz) => ldr_any (Pb.up h Fz) ho)
  have HN := Lib.hid (fun (wz : World) (Fz : Fr [] w wz) => nxt_any (Pb.up h Fz) ho)
  have HC := Lib.hid (fun (wz : World) (Fz : Fr [] w wz) => cho_any (Pb.up h Fz) ho)
  have HO := Lib.hid ho
  rw [hl] at c3
  generalize hyd : y.drow = yd
  have HD := Lib.hid hyd
  clear hyd
  unfold Lx.told Lx.act
  simp only [hl, Int.reduceEq, if_true, if_false, or_true, true_or, or_self]
  have HLN := Lib.hid hl
  clear h hl ho hne
  generalize hn : y.n = n at *
  have HY := Lib.hid hn
  clear hn
  go_enter Try.func22, Try.ntmps22
  go_wp2_with fail
  refine (HL.out _ (Fr.refl _ _)).mono ?_; rintro e _ ⟨rfl, rfl⟩
  go_wp2_with fail
  refine (HN.out _ (Fr.refl _ _)).mono ?_; rintro e _ ⟨rfl, rfl⟩
  go_wp2_with fail
  have hb := HH.out.lt
  refine wp_region_free (by kernel_rfl) ?_
  refine any_envL [p, q] w #[true, true, true, true, true, true, true, true, true, true, false] 10 1 rfl ?_
  refine envT_pass [true, true, true, true, true, true, true, true, true, true, false] 0 (n := 100) (listed' := #[true, true, true, true, true, true, true, true, true, true, false]) rfl (by kernel_rfl) (by kernel_rfl) (by kernel_rfl) (by kernel_rfl) (by kernel_rfl) rfl (by kernel_rfl) (fun _ _ d _ _ h => by cases d <;> exact h) ((Fr.refl _ w).drew) ?_
  apply Exists.intro
  refine ⟨fun wf Ff => ?_, ?_⟩
  · have k0 := In.cell (Ff.cell c0 (by simp; exact HNE.out))
    simp only [sel]
    repeat (go_big_quiet_step (fail))
    exact wpQuiet_nil rfl
  refine envL_tail (k := 10) rfl (by kernel_rfl) (fun w5 F5 => ?_)
  have D5 := (Fr.refl [] w).drew.trans F5
  have A5 := hA.kept D5 (by simp) (by simp)
  clear c0 c1 c2 c3 c4 c5 c6 c7 c8 c9 c10 c11 c12 c13 c14
  go_wp2_with fail
  refine (Ar.swap_any _ p q s _ _ _ A5).mono ?_; rintro e w4 ⟨rfl, A4, F4⟩
  replace F4 := (D5.mono (T := [p, q]) (by simp)).trans F4
  go_wp2
  go_ret
  exact ⟨rfl, by rw [← HD.out]; unfold Lx.drow; rw [if_neg (by rw [HLN.out]; decide)]; exact Pb.kept HH.out F4 (by simp; exact HNE.out), A4, F4.mono (by simp)⟩
set_option maxRecDepth 100000 in
theorem acc1 (hl : y.ln = 1) (h : LxAt w b T pre post y) (ho : pre.size = o) (hA : Ar w p q s) (hne : b ≠ p ∧ b ≠ q) : Calls Try.prog 22 #[.pointer (some ⟨b, o, none⟩), .pointer (some ⟨p, 0, none⟩)] w (PostA w b p q T pre post y s) := by
  unfold PostA
  obtain ⟨c0, c1, c2, c3, c4, c5, c6, c7, c8, c9, c10, c11, c12, c13, c14⟩ := lx_cells h ho
  have HH := Lib.hid h
  have HNE := Lib.hid hne
  have HL := Lib.hid (fun (wz : World) (Fz : Fr [] w wz) => ldr_any (Pb.up h Fz) ho)
  have HN := Lib.hid (fun (wz : World) (Fz : Fr [] w wz) => nxt_any (Pb.up h Fz) ho)
  have HC := Lib.hid (fun (wz : World) (Fz : Fr [] w wz) => cho_any (Pb.up h Fz) ho)
  have HO := Lib.hid ho
  rw [hl] at c3
  generalize hyd : y.drow = yd
  have HD := Lib.hid hyd
  clear hyd
  unfold Lx.told Lx.act
  simp only [hl, Int.reduceEq, if_true, if_false, or_true, true_or, or_self]
  have HLN := Lib.hid hl
  clear h hl ho hne
  generalize hn : y.n = n at *
  have HY := Lib.hid hn
  clear hn
  go_enter Try.func22, Try.ntmps22
  go_wp2_with fail
  refine (HL.out _ (Fr.refl _ _)).mono ?_; rintro e _ ⟨rfl, rfl⟩
  go_wp2_with fail
  refine (HN.out _ (Fr.refl _ _)).mono ?_; rintro e _ ⟨rfl, rfl⟩
  go_wp2_with fail
  refine (Ar.load_any _ p q s _ hA).mono ?_; rintro e w4 ⟨rfl, A4, F4⟩
  clear c0 c1 c2 c3 c4 c5 c6 c7 c8 c9 c10 c11 c12 c13 c14
  go_wp2
  go_ret
  exact ⟨rfl, by rw [← HD.out]; unfold Lx.drow; rw [if_neg (by rw [HLN.out]; decide)]; exact Pb.kept HH.out F4 (by simp; exact HNE.out), A4, F4.mono (by simp)⟩
set_option maxRecDepth 100000 in
theorem acc2 (hl : y.ln = 2) (h : LxAt w b T pre post y) (ho : pre.size = o) (hA : Ar w p q s) (hne : b ≠ p ∧ b ≠ q) : Calls Try.prog 22 #[.pointer (some ⟨b, o, none⟩), .pointer (some ⟨p, 0, none⟩)] w (PostA w b p q T pre post y s) := by
  unfold PostA
  obtain ⟨c0, c1, c2, c3, c4, c5, c6, c7, c8, c9, c10, c11, c12, c13, c14⟩ := lx_cells h ho
  have HH := Lib.hid h
  have HNE := Lib.hid hne
  have HL := Lib.hid (fun (wz : World) (Fz : Fr [] w wz) => ldr_any (Pb.up h Fz) ho)
  have HN := Lib.hid (fun (wz : World) (Fz : Fr [] w wz) => nxt_any (Pb.up h Fz) ho)
  have HC := Lib.hid (fun (wz : World) (Fz : Fr [] w wz) => cho_any (Pb.up h Fz) ho)
  have HO := Lib.hid ho
  rw [hl] at c3
  generalize hyd : y.drow = yd
  have HD := Lib.hid hyd
  clear hyd
  unfold Lx.told Lx.act
  simp only [hl, Int.reduceEq, if_true, if_false, or_true, true_or, or_self]
  have HLN := Lib.hid hl
  clear h hl ho hne
  generalize hn : y.n = n at *
  have HY := Lib.hid hn
  clear hn
  go_enter Try.func22, Try.ntmps22
  go_wp2_with fail
  refine (HL.out _ (Fr.refl _ _)).mono ?_; rintro e _ ⟨rfl, rfl⟩
  go_wp2_with fail
  refine (HN.out _ (Fr.refl _ _)).mono ?_; rintro e _ ⟨rfl, rfl⟩
  go_wp2_with fail
  refine (Ar.load_any _ p q s _ hA).mono ?_; rintro e w4 ⟨rfl, A4, F4⟩
  clear c0 c1 c2 c3 c4 c5 c6 c7 c8 c9 c10 c11 c12 c13 c14
  go_wp2
  go_ret
  exact ⟨rfl, by rw [← HD.out]; unfold Lx.drow; rw [if_neg (by rw [HLN.out]; decide)]; exact Pb.kept HH.out F4 (by simp; exact HNE.out), A4, F4.mono (by simp)⟩
set_option maxRecDepth 100000 in
theorem acc4 (hl : y.ln = 4) (h : LxAt w b T pre post y) (ho : pre.size = o) (hA : Ar w p q s) (hne : b ≠ p ∧ b ≠ q) : Calls Try.prog 22 #[.pointer (some ⟨b, o, none⟩), .pointer (some ⟨p, 0, none⟩)] w (PostA w b p q T pre post y s) := by
  unfold PostA
  obtain ⟨c0, c1, c2, c3, c4, c5, c6, c7, c8, c9, c10, c11, c12, c13, c14⟩ := lx_cells h ho
  have HH := Lib.hid h
  have HNE := Lib.hid hne
  have HL := Lib.hid (fun (wz : World) (Fz : Fr [] w wz) => ldr_any (Pb.up h Fz) ho)
  have HN := Lib.hid (fun (wz : World) (Fz : Fr [] w wz) => nxt_any (Pb.up h Fz) ho)
  have HC := Lib.hid (fun (wz : World) (Fz : Fr [] w wz) => cho_any (Pb.up h Fz) ho)
  have HO := Lib.hid ho
  rw [hl] at c3
  generalize hyd : y.drow = yd
  have HD := Lib.hid hyd
  clear hyd
  unfold Lx.told Lx.act
  simp only [hl, Int.reduceEq, if_true, if_false, or_true, true_or, or_self]
  have HLN := Lib.hid hl
  clear h hl ho hne
  generalize hn : y.n = n at *
  have HY := Lib.hid hn
  clear hn
  go_enter Try.func22, Try.ntmps22
  go_wp2_with fail
  refine (HL.out _ (Fr.refl _ _)).mono ?_; rintro e _ ⟨rfl, rfl⟩
  go_wp2_with fail
  refine (HN.out _ (Fr.refl _ _)).mono ?_; rintro e _ ⟨rfl, rfl⟩
  go_wp2_with fail
  refine (Ar.load_any _ p q s _ hA).mono ?_; rintro e w4 ⟨rfl, A4, F4⟩
  clear c0 c1 c2 c3 c4 c5 c6 c7 c8 c9 c10 c11 c12 c13 c14
  go_wp2
  go_ret
  exact ⟨rfl, by rw [← HD.out]; unfold Lx.drow; rw [if_neg (by rw [HLN.out]; decide)]; exact Pb.kept HH.out F4 (by simp; exact HNE.out), A4, F4.mono (by simp)⟩
set_option maxRecDepth 100000 in
theorem acc6 (hl : y.ln = 6) (h : LxAt w b T pre post y) (ho : pre.size = o) (hA : Ar w p q s) (hne : b ≠ p ∧ b ≠ q) : Calls Try.prog 22 #[.pointer (some ⟨b, o, none⟩), .pointer (some ⟨p, 0, none⟩)] w (PostA w b p q T pre post y s) := by
  unfold PostA
  obtain ⟨c0, c1, c2, c3, c4, c5, c6, c7, c8, c9, c10, c11, c12, c13, c14⟩ := lx_cells h ho
  have HH := Lib.hid h
  have HNE := Lib.hid hne
  have HL := Lib.hid (fun (wz : World) (Fz : Fr [] w wz) => ldr_any (Pb.up h Fz) ho)
  have HN := Lib.hid (fun (wz : World) (Fz : Fr [] w wz) => nxt_any (Pb.up h Fz) ho)
  have HC := Lib.hid (fun (wz : World) (Fz : Fr [] w wz) => cho_any (Pb.up h Fz) ho)
  have HO := Lib.hid ho
  rw [hl] at c3
  generalize hyd : y.drow = yd
  have HD := Lib.hid hyd
  clear hyd
  unfold Lx.told Lx.act
  simp only [hl, Int.reduceEq, if_true, if_false, or_true, true_or, or_self]
  have HLN := Lib.hid hl
  clear h hl ho hne
  generalize hn : y.n = n at *
  have HY := Lib.hid hn
  clear hn
  go_enter Try.func22, Try.ntmps22
  go_wp2_with fail
  refine (HL.out _ (Fr.refl _ _)).mono ?_; rintro e _ ⟨rfl, rfl⟩
  go_wp2_with fail
  refine (HN.out _ (Fr.refl _ _)).mono ?_; rintro e _ ⟨rfl, rfl⟩
  go_wp2_with fail
  refine (Ar.load_any _ p q s _ hA).mono ?_; rintro e w4 ⟨rfl, A4, F4⟩
  clear c0 c1 c2 c3 c4 c5 c6 c7 c8 c9 c10 c11 c12 c13 c14
  go_wp2
  go_ret
  exact ⟨rfl, by rw [← HD.out]; unfold Lx.drow; rw [if_neg (by rw [HLN.out]; decide)]; exact Pb.kept HH.out F4 (by simp; exact HNE.out), A4, F4.mono (by simp)⟩
set_option maxRecDepth 100000 in
theorem acc8 (hl : y.ln = 8) (h : LxAt w b T pre post y) (ho : pre.size = o) (hA : Ar w p q s) (hne : b ≠ p ∧ b ≠ q) : Calls Try.prog 22 #[.pointer (some ⟨b, o, none⟩), .pointer (some ⟨p, 0, none⟩)] w (PostA w b p q T pre post y s) := by
  unfold PostA
  obtain ⟨c0, c1, c2, c3, c4, c5, c6, c7, c8, c9, c10, c11, c12, c13, c14⟩ := lx_cells h ho
  have HH := Lib.hid h
  have HNE := Lib.hid hne
  have HL := Lib.hid (fun (wz : World) (Fz : Fr [] w wz) => ldr_any (Pb.up h Fz) ho)
  have HN := Lib.hid (fun (wz : World) (Fz : Fr [] w wz) => nxt_any (Pb.up h Fz) ho)
  have HC := Lib.hid (fun (wz : World) (Fz : Fr [] w wz) => cho_any (Pb.up h Fz) ho)
  have HO := Lib.hid ho
  rw [hl] at c3
  generalize hyd : y.drow = yd
  have HD := Lib.hid hyd
  clear hyd
  unfold Lx.told Lx.act
  simp only [hl, Int.reduceEq, if_true, if_false, or_true, true_or, or_self]
  have HLN := Lib.hid hl
  clear h hl ho hne
  generalize hn : y.n = n at *
  have HY := Lib.hid hn
  clear hn
  go_enter Try.func22, Try.ntmps22
  go_wp2_with fail
  refine (HL.out _ (Fr.refl _ _)).mono ?_; rintro e _ ⟨rfl, rfl⟩
  go_wp2_with fail
  refine (HN.out _ (Fr.refl _ _)).mono ?_; rintro e _ ⟨rfl, rfl⟩
  go_wp2_with fail
  refine (Ar.load_any _ p q s _ hA).mono ?_; rintro e w4 ⟨rfl, A4, F4⟩
  clear c0 c1 c2 c3 c4 c5 c6 c7 c8 c9 c10 c11 c12 c13 c14
  go_wp2
  go_ret
  exact ⟨rfl, by rw [← HD.out]; unfold Lx.drow; rw [if_neg (by rw [HLN.out]; decide)]; exact Pb.kept HH.out F4 (by simp; exact HNE.out), A4, F4.mono (by simp)⟩
set_option maxRecDepth 100000 in
theorem acc9 (hl : y.ln = 9) (h : LxAt w b T pre post y) (ho : pre.size = o) (hA : Ar w p q s) (hne : b ≠ p ∧ b ≠ q) : Calls Try.prog 22 #[.pointer (some ⟨b, o, none⟩), .pointer (some ⟨p, 0, none⟩)] w (PostA w b p q T pre post y s) := by
  unfold PostA
  obtain ⟨c0, c1, c2, c3, c4, c5, c6, c7, c8, c9, c10, c11, c12, c13, c14⟩ := lx_cells h ho
  have HH := Lib.hid h
  have HNE := Lib.hid hne
  have HL := Lib.hid (fun (wz : World) (Fz : Fr [] w wz) => ldr_any (Pb.up h Fz) ho)
  have HN := Lib.hid (fun (wz : World) (Fz : Fr [] w wz) => nxt_any (Pb.up h Fz) ho)
  have HC := Lib.hid (fun (wz : World) (Fz : Fr [] w wz) => cho_any (Pb.up h Fz) ho)
  have HO := Lib.hid ho
  rw [hl] at c3
  generalize hyd : y.drow = yd
  have HD := Lib.hid hyd
  clear hyd
  unfold Lx.told Lx.act
  simp only [hl, Int.reduceEq, if_true, if_false, or_true, true_or, or_self]
  have HLN := Lib.hid hl
  clear h hl ho hne
  generalize hn : y.n = n at *
  have HY := Lib.hid hn
  clear hn
  go_enter Try.func22, Try.ntmps22
  go_wp2_with fail
  refine (HL.out _ (Fr.refl _ _)).mono ?_; rintro e _ ⟨rfl, rfl⟩
  go_wp2_with fail
  refine (HN.out _ (Fr.refl _ _)).mono ?_; rintro e _ ⟨rfl, rfl⟩
  go_wp2_with fail
  refine (Ar.load_any _ p q s _ hA).mono ?_; rintro e w4 ⟨rfl, A4, F4⟩
  clear c0 c1 c2 c3 c4 c5 c6 c7 c8 c9 c10 c11 c12 c13 c14
  go_wp2
  go_ret
  exact ⟨rfl, by rw [← HD.out]; unfold Lx.drow; rw [if_neg (by rw [HLN.out]; decide)]; exact Pb.kept HH.out F4 (by simp; exact HNE.out), A4, F4.mono (by simp)⟩
set_option maxRecDepth 100000 in
theorem acc3 (hl : y.ln = 3) (h : LxAt w b T pre post y) (ho : pre.size = o) (hA : Ar w p q s) (hne : b ≠ p ∧ b ≠ q) : Calls Try.prog 22 #[.pointer (some ⟨b, o, none⟩), .pointer (some ⟨p, 0, none⟩)] w (PostA w b p q T pre post y s) := by
  unfold PostA
  obtain ⟨c0, c1, c2, c3, c4, c5, c6, c7, c8, c9, c10, c11, c12, c13, c14⟩ := lx_cells h ho
  have HH := Lib.hid h
  have HNE := Lib.hid hne
  have HL := Lib.hid (fun (wz : World) (Fz : Fr [] w wz) => ldr_any (Pb.up h Fz) ho)
  have HN := Lib.hid (fun (wz : World) (Fz : Fr [] w wz) => nxt_any (Pb.up h Fz) ho)
  have HC := Lib.hid (fun (wz : World) (Fz : Fr [] w wz) => cho_any (Pb.up h Fz) ho)
  have HO := Lib.hid ho
  rw [hl] at c3
  generalize hyd : y.drow = yd
  have HD := Lib.hid hyd
  clear hyd
  unfold Lx.told Lx.act
  simp only [hl, Int.reduceEq, if_true, if_false, or_true, true_or, or_self]
  have HLN := Lib.hid hl
  clear h hl ho hne
  generalize hn : y.n = n at *
  have HY := Lib.hid hn
  clear hn
  go_enter Try.func22, Try.ntmps22
  go_wp2_with fail
  refine (HL.out _ (Fr.refl _ _)).mono ?_; rintro e _ ⟨rfl, rfl⟩
  go_wp2_with fail
  refine (HN.out _ (Fr.refl _ _)).mono ?_; rintro e _ ⟨rfl, rfl⟩
  go_wp2_with fail
  refine (swm_any _ _ hA).mono ?_; rintro e w4 ⟨rfl, A4, F4⟩
  clear c0 c1 c2 c3 c4 c5 c6 c7 c8 c9 c10 c11 c12 c13 c14
  go_wp2
  go_ret
  exact ⟨rfl, by rw [← HD.out]; unfold Lx.drow; rw [if_neg (by rw [HLN.out]; decide)]; exact Pb.kept HH.out F4 (by simp; exact HNE.out), A4, F4.mono (by simp)⟩
set_option maxRecDepth 100000 in
theorem acc10 (hl : y.ln = 10) (h : LxAt w b T pre post y) (ho : pre.size = o) (hA : Ar w p q s) (hne : b ≠ p ∧ b ≠ q) : Calls Try.prog 22 #[.pointer (some ⟨b, o, none⟩), .pointer (some ⟨p, 0, none⟩)] w (PostA w b p q T pre post y s) := by
  unfold PostA
  obtain ⟨c0, c1, c2, c3, c4, c5, c6, c7, c8, c9, c10, c11, c12, c13, c14⟩ := lx_cells h ho
  have HH := Lib.hid h
  have HNE := Lib.hid hne
  have HL := Lib.hid (fun (wz : World) (Fz : Fr [] w wz) => ldr_any (Pb.up h Fz) ho)
  have HN := Lib.hid (fun (wz : World) (Fz : Fr [] w wz) => nxt_any (Pb.up h Fz) ho)
  have HC := Lib.hid (fun (wz : World) (Fz : Fr [] w wz) => cho_any (Pb.up h Fz) ho)
  have HO := Lib.hid ho
  rw [hl] at c3
  generalize hyd : y.drow = yd
  have HD := Lib.hid hyd
  clear hyd
  unfold Lx.told Lx.act
  simp only [hl, Int.reduceEq, if_true, if_false, or_true, true_or, or_self]
  have HLN := Lib.hid hl
  clear h hl ho hne
  generalize hn : y.n = n at *
  have HY := Lib.hid hn
  clear hn
  go_enter Try.func22, Try.ntmps22
  go_wp2_with fail
  refine (HL.out _ (Fr.refl _ _)).mono ?_; rintro e _ ⟨rfl, rfl⟩
  go_wp2_with fail
  refine (HN.out _ (Fr.refl _ _)).mono ?_; rintro e _ ⟨rfl, rfl⟩
  go_wp2_with fail
  refine (swm_any _ _ hA).mono ?_; rintro e w4 ⟨rfl, A4, F4⟩
  clear c0 c1 c2 c3 c4 c5 c6 c7 c8 c9 c10 c11 c12 c13 c14
  go_wp2
  go_ret
  exact ⟨rfl, by rw [← HD.out]; unfold Lx.drow; rw [if_neg (by rw [HLN.out]; decide)]; exact Pb.kept HH.out F4 (by simp; exact HNE.out), A4, F4.mono (by simp)⟩
set_option maxRecDepth 100000 in
theorem acc7 (hl : y.ln = 7) (h : LxAt w b T pre post y) (ho : pre.size = o) (hA : Ar w p q s) (hne : b ≠ p ∧ b ≠ q) : Calls Try.prog 22 #[.pointer (some ⟨b, o, none⟩), .pointer (some ⟨p, 0, none⟩)] w (PostA w b p q T pre post y s) := by
  unfold PostA
  obtain ⟨c0, c1, c2, c3, c4, c5, c6, c7, c8, c9, c10, c11, c12, c13, c14⟩ := lx_cells h ho
  have HH := Lib.hid h
  have HNE := Lib.hid hne
  have HL := Lib.hid (fun (wz : World) (Fz : Fr [] w wz) => ldr_any (Pb.up h Fz) ho)
  have HN := Lib.hid (fun (wz : World) (Fz : Fr [] w wz) => nxt_any (Pb.up h Fz) ho)
  have HC := Lib.hid (fun (wz : World) (Fz : Fr [] w wz) => cho_any (Pb.up h Fz) ho)
  have HO := Lib.hid ho
  rw [hl] at c3
  generalize hyd : y.drow = yd
  have HD := Lib.hid hyd
  clear hyd
  unfold Lx.told Lx.act
  simp only [hl, Int.reduceEq, if_true, if_false, or_true, true_or, or_self]
  have HLN := Lib.hid hl
  clear h hl ho hne
  generalize hn : y.n = n at *
  have HY := Lib.hid hn
  clear hn
  go_enter Try.func22, Try.ntmps22
  go_wp2_with fail
  refine (HL.out _ (Fr.refl _ _)).mono ?_; rintro e _ ⟨rfl, rfl⟩
  go_wp2_with fail
  refine (HN.out _ (Fr.refl _ _)).mono ?_; rintro e _ ⟨rfl, rfl⟩
  go_wp2_with fail
  refine (Ar.swap_any _ p q s _ _ _ hA).mono ?_; rintro e w4 ⟨rfl, A4, F4⟩
  clear c0 c1 c2 c3 c4 c5 c6 c7 c8 c9 c10 c11 c12 c13 c14
  go_wp2
  go_ret
  exact ⟨rfl, by rw [← HD.out]; unfold Lx.drow; rw [if_neg (by rw [HLN.out]; decide)]; exact Pb.kept HH.out F4 (by simp; exact HNE.out), A4, F4.mono (by simp)⟩
set_option maxRecDepth 100000 in
theorem acc5 (hl : y.ln = 5) (h : LxAt w b T pre post y) (ho : pre.size = o) (hA : Ar w p q s) (hne : b ≠ p ∧ b ≠ q) : Calls Try.prog 22 #[.pointer (some ⟨b, o, none⟩), .pointer (some ⟨p, 0, none⟩)] w (PostA w b p q T pre post y s) := by
  unfold PostA
  obtain ⟨c0, c1, c2, c3, c4, c5, c6, c7, c8, c9, c10, c11, c12, c13, c14⟩ := lx_cells h ho
  have HH := Lib.hid h
  have HNE := Lib.hid hne
  have HL := Lib.hid (fun (wz : World) (Fz : Fr [] w wz) => ldr_any (Pb.up h Fz) ho)
  have HN := Lib.hid (fun (wz : World) (Fz : Fr [] w wz) => nxt_any (Pb.up h Fz) ho)
  have HC := Lib.hid (fun (wz : World) (Fz : Fr [] w wz) => cho_any (Pb.up h Fz) ho)
  have HO := Lib.hid ho
  rw [hl] at c3
  generalize hyd : y.drow = yd
  have HD := Lib.hid hyd
  clear hyd
  unfold Lx.told Lx.act
  simp only [hl, Int.reduceEq, if_true, if_false, or_true, true_or, or_self]
  have HLN := Lib.hid hl
  clear h hl ho hne
  generalize hn : y.n = n at *
  have HY := Lib.hid hn
  clear hn
  go_enter Try.func22, Try.ntmps22
  go_wp2_with fail
  refine (HL.out _ (Fr.refl _ _)).mono ?_; rintro e _ ⟨rfl, rfl⟩
  go_wp2_with fail
  refine (HN.out _ (Fr.refl _ _)).mono ?_; rintro e _ ⟨rfl, rfl⟩
  go_wp2_with fail
  refine (HC.out _ (Fr.refl _ _)).mono ?_; rintro e _ ⟨rfl, rfl⟩
  go_wp2_with fail
  refine (Ar.swap_any _ p q s _ _ _ hA).mono ?_; rintro e w4 ⟨rfl, A4, F4⟩
  have h4 : LxAt w4 b T pre post y := Pb.kept HH.out F4 (by simp; exact HNE.out)
  clear c0 c1 c2 c3 c4 c5 c6 c7 c8 c9 c10 c11 c12 c13 c14
  obtain ⟨c0, c1, c2, c3, c4, c5, c6, c7, c8, c9, c10, c11, c12, c13, c14⟩ := lx_cells h4 HO.out
  have z4 := h4.frozen
  have HP := Lib.hid h4
  clear h4 c0 c1 c3 c4 c5 c6 c7 c8 c9 c10 c11 c12 c13 c14
  go_wp2
  go_ret
  refine ⟨rfl, ?_, ?_, ?_⟩
  · rw [← HD.out]; unfold Lx.drow; rw [if_pos HLN.out]; exact Pb.set HP.out HO.out (i := 2) (by show 2 < 15; omega) (.bool true)
  · exact A4.kept (Fr.setCell (S := [b]) (b := b) _ (by simp)) (by simp; exact HNE.out.1.symm) (by simp; exact HNE.out.2.symm)
  · exact (F4.mono (by simp)).setCell' (b := b) _ (by simp)
theorem acc_any (hl : 0 ≤ y.ln ∧ y.ln ≤ 10) (h : LxAt w b T pre post y) (ho : pre.size = o) (hA : Ar w p q s) (hne : b ≠ p ∧ b ≠ q) : Calls Try.prog 22 #[.pointer (some ⟨b, o, none⟩), .pointer (some ⟨p, 0, none⟩)] w (PostA w b p q T pre post y s) := by
  rcases (by omega : y.ln = 0 ∨ y.ln = 1 ∨ y.ln = 2 ∨ y.ln = 3 ∨ y.ln = 4 ∨ y.ln = 5 ∨ y.ln = 6 ∨ y.ln = 7 ∨ y.ln = 8 ∨ y.ln = 9 ∨ y.ln = 10) with e | e | e | e | e | e | e | e | e | e | e
  · exact acc0 e h ho hA hne
  · exact acc1 e h ho hA hne
  · exact acc2 e h ho hA hne
  · exact acc3 e h ho hA hne
  · exact acc4 e h ho hA hne
  · exact acc5 e h ho hA hne
  · exact acc6 e h ho hA hne
  · exact acc7 e h ho hA hne
  · exact acc8 e h ho hA hne
  · exact acc9 e h ho hA hne
  · exact acc10 e h ho hA hne
end
end Go.Proofs.Ytfchbbhopfganaa.Le
