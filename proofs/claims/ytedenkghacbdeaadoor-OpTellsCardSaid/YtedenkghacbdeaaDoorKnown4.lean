/- The small inputs that each law of layer 4 runs first. -/
import Derived.Test.YtedenkghacbdeaaDoorScript
import Derived.Test.YtedenkghacbdeaaDoorSameAll
import Derived.Test.YtedenkghacbdeaaDoorAt
namespace Go.Proofs.YtedenkghacbdeaaDoor.Og
open Go.RowKit Go.Maps Go.Proofs.YtedenkghacbdeaaDoor.Ar
set_option linter.unusedVariables false
set_option linter.unusedSimpArgs false
theorem one_row {w : World} {b : Nat} {T : TypeId} {k ky v t : Int} (h : w.heap[b]? = some (.cells #[.int .i64 k, .int .i64 ky, .int .i64 v, .int .i64 t] T (0, 0))) (hk : (Lit.int .i64 k).wf = true) :
    OpRow w (.slice (some ⟨b, 0, none⟩) 1 1) [(k, ky, v, t)] := by
  refine ⟨some ⟨b, 0, none⟩, 1, rfl, by simp [maxLen], by intro o ho; simp at ho; subst ho; exact hk, .inr ⟨b, 0, rfl, (Array.getElem?_eq_some_iff.1 h).1, fun i hi => ?_⟩⟩
  obtain rfl : i = 0 := by simpa using hi
  obtain ⟨c0, c1, c2, c3⟩ := Pl.cells4 h
  exact ⟨c0, c1, c2, c3⟩
theorem one_rows {w : World} {b : Nat} {T : TypeId} {x : Value} {os : List O} (h : w.heap[b]? = some (.cells #[x] T (0, 0))) (hr : OpRow w x os) :
    OpRows w (.slice (some ⟨b, 0, none⟩) 1 1) [os] := by
  refine ⟨some ⟨b, 0, none⟩, 1, fun _ => x, rfl, by simp [maxLen], .inr ⟨b, 0, rfl, (Array.getElem?_eq_some_iff.1 h).1, fun i hi => ?_⟩, fun i hi => ?_⟩
  · obtain rfl : i = 0 := by simpa using hi
    rw [cell_of_row _ _ _ _ _ _ h]; rfl
  · obtain rfl : i = 0 := by simpa using hi
    exact hr
theorem heap_up {w w' : World} (f : Fr [] w w') {b : Nat} {o : Obj} (h : w.heap[b]? = some o) : w'.heap[b]? = some o := f.heap h (by simp)
theorem new_at {w w1 : World} {o : Obj} {b : Nat} (hs : w.heap.size = b) (f : Fr [] (w.alloc o) w1) : w1.heap[b]? = some o := by subst hs; exact heap_up f (Go.heap_alloc_new w o)
/-- The value of a script of two threads whose one op lies by way of block r. -/
def sc (r : Nat) : Value := .agg #[.int .i64 2, .int .i64 4, .int .i64 200, .int .i64 1000, .slice (some ⟨r, 0, none⟩) 1 1, .slice none 0 0, .slice none 0 0]
def scc (r : Nat) : Array Value := #[.int .i64 2, .int .i64 4, .int .i64 200, .int .i64 1000, .slice (some ⟨r, 0, none⟩) 1 1, .slice none 0 0, .slice none 0 0]
theorem one_script {w : World} {r q : Nat} {k ky v t : Int} {T T' : TypeId} (hq : w.heap[q]? = some (.cells #[.int .i64 k, .int .i64 ky, .int .i64 v, .int .i64 t] T (0, 0))) (hk : (Lit.int .i64 k).wf = true) (hr : w.heap[r]? = some (.cells #[.slice (some ⟨q, 0, none⟩) 1 1] T' (0, 0))) :
    Scr w (sc r) 2 4 200 1000 [[(k, ky, v, t)]] [] [] := ⟨_, _, _, rfl, one_rows hr (one_row hq hk), nil_ints w, nil_ints w⟩
/-- What lies there once all is laid. -/
structure KB (w v : World) (r p q e d : Nat) : Prop where
  g : Fr [] w v
  s : Scr v (sc r) 2 4 200 1000 [[(1, 3, 9, 0)]] [] []
  t : Scr v (sc e) 2 4 200 1000 [[(3, 0, 1, 0)]] [] []
  a : v.heap[p]? = some (.cells (scc r) 29 (0, 0))
  b : v.heap[d]? = some (.cells (scc e) 29 (0, 0))
  o : v.heap[q]? = some (.cells #[.int .i64 1, .int .i64 3, .int .i64 9, .int .i64 0] 23 (0, 0))
theorem KB.up {w v v' : World} {r p q e d : Nat} (h : KB w v r p q e d) (f : Fr [] v v') : KB w v' r p q e d :=
  ⟨h.g.trans f, h.s.up f, h.t.up f, heap_up f h.a, heap_up f h.b, heap_up f h.o⟩
theorem none_script (w : World) : Scr w (.agg #[.int .i64 0, .int .i64 0, .int .i64 0, .int .i64 0, .slice none 0 0, .slice none 0 0, .slice none 0 0]) 0 0 0 0 [] [] [] := ⟨_, _, _, rfl, nil_rows w, nil_ints w, nil_ints w⟩
set_option maxRecDepth 100000 in
set_option maxHeartbeats 8000000 in
theorem known_true (w : World) : Calls Tryd.prog 4 #[] w fun e w' => e = .returned (.bool true) ∧ Fr [] w w' := by
  go_enter Tryd.func4, Tryd.ntmps4
  go_wp2_with fail
  refine (Pl.conf_any 2 4 200 _).mono ?_; rintro e w1 ⟨rfl, F1⟩
  go_wp2_with fail
  have G3 := ((F1.alloc (.cells #[.int .i64 1, .int .i64 3, .int .i64 9, .int .i64 0] 23)).alloc (.cells #[.slice (some ⟨w1.heap.size, 0, none⟩) 1 1] 45)).alloc (.cells (scc (w1.heap.size + 1)) 29)
  have A1 := new_at (b := w1.heap.size) rfl (((Fr.refl [] (w1.alloc (.cells #[.int .i64 1, .int .i64 3, .int .i64 9, .int .i64 0] 23))).alloc (.cells #[.slice (some ⟨w1.heap.size, 0, none⟩) 1 1] 45)).alloc (.cells (scc (w1.heap.size + 1)) 29))
  have A2 := new_at (b := w1.heap.size + 1) (size_alloc _ _) ((Fr.refl [] ((w1.alloc (.cells #[.int .i64 1, .int .i64 3, .int .i64 9, .int .i64 0] 23)).alloc (.cells #[.slice (some ⟨w1.heap.size, 0, none⟩) 1 1] 45))).alloc (.cells (scc (w1.heap.size + 1)) 29))
  have A3 := new_at (b := w1.heap.size + 1 + 1) ((size_alloc _ _).trans (congrArg (· + 1) (size_alloc _ _))) (Fr.refl [] (((w1.alloc (.cells #[.int .i64 1, .int .i64 3, .int .i64 9, .int .i64 0] 23)).alloc (.cells #[.slice (some ⟨w1.heap.size, 0, none⟩) 1 1] 45)).alloc (.cells (scc (w1.heap.size + 1)) 29)))
  unfold scc at G3 A1 A2 A3
  generalize ((w1.alloc (.cells #[.int .i64 1, .int .i64 3, .int .i64 9, .int .i64 0] 23)).alloc (.cells #[.slice (some ⟨w1.heap.size, 0, none⟩) 1 1] 45)).alloc (.cells #[.int .i64 2, .int .i64 4, .int .i64 200, .int .i64 1000, .slice (some ⟨w1.heap.size + 1, 0, none⟩) 1 1, .slice none 0 0, .slice none 0 0] 29) = w3 at *
  generalize w1.heap.size = b1 at *
  clear F1
  have S3 := one_script (r := b1 + 1) A1 (by decide) A2
  refine (of_any 1002 _).mono ?_; rintro e w' ⟨rfl, rfl⟩
  rw [show thr 1002 = 1 by decide, show ind 1002 = 2 by decide]
  obtain ⟨c0, c1, c2, c3, c4, c5, c6⟩ := cells7 A3
  go_wp2_with fail
  refine (at_any _ _ _ _ 0 _ _ _ _ _ S3).mono ?_; rintro e w4 ⟨rfl, F4⟩
  rw [show opAt [[(1, 3, 9, 0)]] 0 = (1, 3, 9, 0) by decide, show has [[(1, 3, 9, 0)]] 0 = true by decide]
  simp only [opv]
  have G4 := G3.trans F4
  replace A1 := heap_up F4 A1
  replace A2 := heap_up F4 A2
  replace A3 := heap_up F4 A3
  have S4 := S3.up F4
  clear F4 S3 G3 c0 c1 c2 c3 c4 c5 c6
  have A4 := new_at (b := w4.heap.size) rfl (Fr.refl [] (w4.alloc (.cells #[.int .i64 1, .int .i64 3, .int .i64 9, .int .i64 0] 23)))
  have G5 := G4.alloc (.cells #[.int .i64 1, .int .i64 3, .int .i64 9, .int .i64 0] 23)
  have F4 := (Fr.refl [] w4).alloc (.cells #[.int .i64 1, .int .i64 3, .int .i64 9, .int .i64 0] 23)
  replace A1 := heap_up F4 A1
  replace A2 := heap_up F4 A2
  replace A3 := heap_up F4 A3
  have S5 := S4.up F4
  clear F4 S4 G4
  obtain ⟨c0, c1, c2, c3, c4, c5, c6⟩ := cells7 A3
  go_wp2_with fail
  generalize w4.alloc (.cells #[.int .i64 1, .int .i64 3, .int .i64 9, .int .i64 0] 23) = w5 at *
  generalize w4.heap.size = b4 at *
  refine (at_any _ _ _ _ 1 _ _ _ _ _ S5).mono ?_; rintro e w6 ⟨rfl, F6⟩
  rw [show opAt [[(1, 3, 9, 0)]] 1 = (0, 0, 0, 0) by decide, show has [[(1, 3, 9, 0)]] 1 = false by decide]
  simp only [opv]
  clear c0 c1 c2 c3 c4 c5 c6
  have G6 := G5.trans F6
  have Fz := (Fr.refl [] w6).alloc (.cells #[.int .i64 0, .int .i64 0, .int .i64 0, .int .i64 0] 23)
  have F7 := F6.trans Fz
  have G7 := G6.trans Fz
  replace A1 := heap_up F7 A1
  replace A2 := heap_up F7 A2
  replace A3 := heap_up F7 A3
  replace A4 := heap_up F7 A4
  have S7 := S5.up F7
  clear F6 F7 S5 G5 G6 Fz
  obtain ⟨c0, c1, c2, c3, c4, c5, c6⟩ := cells7 A3
  go_wp2_with fail
  clear c0 c1 c2 c3 c4 c5 c6
  have F8 := (((Fr.refl [] (w6.alloc (.cells #[.int .i64 0, .int .i64 0, .int .i64 0, .int .i64 0] 23))).alloc (.cells (scc (w6.heap.size + 1 + 1 + 1)) 29)).alloc (.cells #[.int .i64 3, .int .i64 0, .int .i64 1, .int .i64 0] 23)).alloc (.cells #[.slice (some ⟨w6.heap.size + 1 + 1, 0, none⟩) 1 1] 45)
  have z1 : (w6.alloc (.cells #[.int .i64 0, .int .i64 0, .int .i64 0, .int .i64 0] 23)).heap.size = w6.heap.size + 1 := size_alloc _ _
  have B1 := new_at (b := w6.heap.size + 1) z1 (((Fr.refl [] ((w6.alloc (.cells #[.int .i64 0, .int .i64 0, .int .i64 0, .int .i64 0] 23)).alloc (.cells (scc (w6.heap.size + 1 + 1 + 1)) 29))).alloc (.cells #[.int .i64 3, .int .i64 0, .int .i64 1, .int .i64 0] 23)).alloc (.cells #[.slice (some ⟨w6.heap.size + 1 + 1, 0, none⟩) 1 1] 45))
  have B2 := new_at (b := w6.heap.size + 1 + 1) ((size_alloc _ _).trans (congrArg (· + 1) z1)) ((Fr.refl [] (((w6.alloc (.cells #[.int .i64 0, .int .i64 0, .int .i64 0, .int .i64 0] 23)).alloc (.cells (scc (w6.heap.size + 1 + 1 + 1)) 29)).alloc (.cells #[.int .i64 3, .int .i64 0, .int .i64 1, .int .i64 0] 23))).alloc (.cells #[.slice (some ⟨w6.heap.size + 1 + 1, 0, none⟩) 1 1] 45))
  have B3 := new_at (b := w6.heap.size + 1 + 1 + 1) ((size_alloc _ _).trans (congrArg (· + 1) ((size_alloc _ _).trans (congrArg (· + 1) z1)))) (Fr.refl [] ((((w6.alloc (.cells #[.int .i64 0, .int .i64 0, .int .i64 0, .int .i64 0] 23)).alloc (.cells (scc (w6.heap.size + 1 + 1 + 1)) 29)).alloc (.cells #[.int .i64 3, .int .i64 0, .int .i64 1, .int .i64 0] 23)).alloc (.cells #[.slice (some ⟨w6.heap.size + 1 + 1, 0, none⟩) 1 1] 45)))
  have K8 : KB w _ (b1 + 1) (b1 + 1 + 1) b4 (w6.heap.size + 1 + 1 + 1) (w6.heap.size + 1) := ⟨G7.trans F8, S7.up F8, one_script B2 (by decide) B3, heap_up F8 A3, B1, heap_up F8 A4⟩
  unfold scc at K8
  generalize (((w6.alloc (.cells #[.int .i64 0, .int .i64 0, .int .i64 0, .int .i64 0] 23)).alloc (.cells #[.int .i64 2, .int .i64 4, .int .i64 200, .int .i64 1000, .slice (some ⟨w6.heap.size + 1 + 1 + 1, 0, none⟩) 1 1, .slice none 0 0, .slice none 0 0] 29)).alloc (.cells #[.int .i64 3, .int .i64 0, .int .i64 1, .int .i64 0] 23)).alloc (.cells #[.slice (some ⟨w6.heap.size + 1 + 1, 0, none⟩) 1 1] 45) = w8 at *
  clear F8 z1 B1 B2 B3 A1 A2 A3 A4 S7 G7
  generalize w6.heap.size = b6 at *
  refine (is_any 4 5 0 2 _ (by decide)).mono ?_; rintro e w9 ⟨rfl, F9⟩
  rw [show fit 4 5 0 2 = true by decide]
  have K9 := K8.up F9
  clear K8 F9
  go_wp2_with fail
  refine (is_any 0 0 0 0 _ (by decide)).mono ?_; rintro e w10 ⟨rfl, F9⟩
  rw [show fit 0 0 0 0 = false by decide]
  have K10 := K9.up F9
  clear K9 F9
  go_wp2_with fail
  refine (is_any 3 64 0 0 _ (by decide)).mono ?_; rintro e w11 ⟨rfl, F9⟩
  rw [show fit 3 64 0 0 = false by decide]
  have K11 := K10.up F9
  clear K10 F9
  obtain ⟨c0, c1, c2, c3, c4, c5, c6⟩ := cells7 K11.a
  go_wp2_with fail
  refine (script_any _ _ _ _ _ _ _ _ _ K11.s).mono ?_; rintro e w12 ⟨rfl, F9⟩
  rw [show Pl.errv (scode 2 4 200 1000 [[(1, 3, 9, 0)]] []) = .nilIface by rw [show scode 2 4 200 1000 [[(1, 3, 9, 0)]] [] = 0 by decide +kernel]; rfl]
  have K12 := K11.up F9
  clear K11 F9 c0 c1 c2 c3 c4 c5 c6
  obtain ⟨c0, c1, c2, c3, c4, c5, c6⟩ := cells7 K12.b
  have iE := Er.isE
  go_wp2_with fail
  refine (script_any _ _ _ _ _ _ _ _ _ K12.t).mono ?_; rintro e w13 ⟨rfl, F9⟩
  rw [show Pl.errv (scode 2 4 200 1000 [[(3, 0, 1, 0)]] []) = .iface 47 (.int .i64 10) by rw [show scode 2 4 200 1000 [[(3, 0, 1, 0)]] [] = 10 by decide +kernel]; exact errv_some (by decide)]
  have K13 := K12.up F9
  clear K12 F9 c0 c1 c2 c3 c4 c5 c6
  go_wp2_with fail
  refine (Er.is_same 10 _).mono ?_; rintro e w' ⟨rfl, rfl⟩
  go_wp2_with fail
  refine (script_any _ _ _ _ _ _ _ _ _ (none_script _)).mono ?_; rintro e w14 ⟨rfl, F9⟩
  rw [show Pl.errv (scode 0 0 0 0 [] []) = .iface 47 (.int .i64 10) by rw [show scode 0 0 0 0 [] [] = 10 by decide +kernel]; exact errv_some (by decide)]
  have K14 := K13.up F9
  clear K13 F9
  go_wp2_with fail
  refine (Er.is_same 10 _).mono ?_; rintro e w' ⟨rfl, rfl⟩
  obtain ⟨c0, c1, c2, c3, c4, c5, c6⟩ := cells7 K14.a
  go_wp2_with fail
  refine (same_any _ _ _ _ _ _ _ _ _ _ _ _ _ _ _ _ _ K14.s K14.s).mono ?_; rintro e w15 ⟨rfl, F9⟩
  rw [show sameS 2 4 200 1000 2 4 200 1000 [[(1, 3, 9, 0)]] [[(1, 3, 9, 0)]] [] [] [] [] = true by decide +kernel]
  have K15 := K14.up F9
  clear K14 F9 c0 c1 c2 c3 c4 c5 c6
  obtain ⟨c0, c1, c2, c3, c4, c5, c6⟩ := cells7 K15.a
  obtain ⟨d0, d1, d2, d3, d4, d5, d6⟩ := cells7 K15.b
  go_wp2_with fail
  refine (same_any _ _ _ _ _ _ _ _ _ _ _ _ _ _ _ _ _ K15.s K15.t).mono ?_; rintro e w16 ⟨rfl, F9⟩
  rw [show sameS 2 4 200 1000 2 4 200 1000 [[(1, 3, 9, 0)]] [[(3, 0, 1, 0)]] [] [] [] [] = false by decide +kernel]
  have K16 := K15.up F9
  clear K15 F9 c0 c1 c2 c3 c4 c5 c6 d0 d1 d2 d3 d4 d5 d6
  go_wp2_with fail
  refine (writer_any 1 2 _).mono ?_; rintro e w' ⟨rfl, rfl⟩
  rw [show wrOf 1 2 = 1002 by decide]
  go_wp2_with fail
  refine (writer_any 8 0 _).mono ?_; rintro e w' ⟨rfl, rfl⟩
  rw [show wrOf 8 0 = -1 by decide]
  obtain ⟨c0, c1, c2, c3⟩ := Pl.cells4 K16.o
  go_wp2
  go_ret
  exact ⟨rfl, K16.g⟩
end Go.Proofs.YtedenkghacbdeaaDoor.Og
