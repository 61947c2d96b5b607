/- Package view: a chunk that isn't there; a chunk laid. -/
import Derived.Test.YtkdnhaglfbkhfaaView2
import Derived.Test.YtkdnhaglfbkhfaaFirst
namespace Go.Proofs.Ytkdnhaglfbkhfaa.Vw
open Go.RowKit Go.Proofs.Ytkdnhaglfbkhfaa.Ar Go.Proofs.Ytkdnhaglfbkhfaa.Mx
set_option linter.unusedVariables false
set_option linter.unusedSimpArgs false
def ErrPlaceV : Value := .iface 75 (.int .i64 11)
set_option maxHeartbeats 1600000 in
theorem chunk_no (t wd v a : Int) (n p q : Nat) (s : St) (w : World) (h1 : 1 ≤ n) (h2 : n ≤ 16) (h3 : n ≤ s.l.length) (h4 : s.l.length ≤ 20000) (hA : Ar w p q s) (ht : thereB s.l.length n a = false) :
    Calls Try.prog 35 #[.agg #[.int .i64 t, .int .i64 n, .int .i64 wd, .int .i64 v], .pointer (some ⟨p, 0, none⟩), .int .i64 a] w fun e w' => e = .returned (.tuple #[chV ⟨0, 0, 0, 0, 0, 0, 0, 0⟩ (.slice none 0 0), .iface 75 (.int .i64 11)]) ∧ Fr [] w w' := by
  have isE := Er.isE
  have F0 := ((Fr.refl [] w).alloc (.cells #[.int .i64 t, .int .i64 n, .int .i64 wd, .int .i64 v] 24))
  have o1 := Ob.newAt (sizeA w (.cells #[.int .i64 t, .int .i64 n, .int .i64 wd, .int .i64 v] 24)) 63 #[.int .i64 0, .int .i64 0, .int .i64 0, .int .i64 0, .int .i64 0, .int .i64 0, .int .i64 0, .int .i64 0, .slice none 0 0]
  have F1 := F0.alloc (.cells #[.int .i64 0, .int .i64 0, .int .i64 0, .int .i64 0, .int .i64 0, .int .i64 0, .int .i64 0, .int .i64 0, .slice none 0 0] 63)
  clear F0
  go_enter Try.func35, Try.ntmps35
  go_wp2_with fail
  generalize World.alloc (World.alloc w _) _ = w1 at *
  refine (there_any t n wd v a p q s _ (by omega) (by omega) (by omega) h4 (hA.kept F1 (by simp) (by simp))).mono ?_; rintro e w2 ⟨rfl, F2⟩
  rw [ht]
  clear ht
  replace o1 := o1.up F2
  replace F1 := F1.trans F2
  clear F2 hA
  have z := o1.frozen
  obtain ⟨q0, q1, q2, q3, q4, q5, q6, q7, q8⟩ := ch_cells (h := ⟨0, 0, 0, 0, 0, 0, 0, 0⟩) (lv := .slice none 0 0) o1
  go_wp2_with fail
  have o8 := (Ob.set (Ob.set (Ob.set (Ob.set (Ob.set (Ob.set (Ob.set (Ob.set (Ob.set o1 (i := 0) (.int .i64 0)) (i := 1) (.int .i64 0)) (i := 2) (.int .i64 0)) (i := 3) (.int .i64 0)) (i := 4) (.int .i64 0)) (i := 5) (.int .i64 0)) (i := 6) (.int .i64 0)) (i := 7) (.int .i64 0)) (i := 8) (.slice none 0 0))
  have F8 : Fr [w.heap.size + 1] w2 (((((((((w2.setCell ⟨w.heap.size + 1, 0, none⟩ (.int .i64 0)).setCell ⟨w.heap.size + 1, 1, none⟩ (.int .i64 0)).setCell ⟨w.heap.size + 1, 2, none⟩ (.int .i64 0)).setCell ⟨w.heap.size + 1, 3, none⟩ (.int .i64 0)).setCell ⟨w.heap.size + 1, 4, none⟩ (.int .i64 0)).setCell ⟨w.heap.size + 1, 5, none⟩ (.int .i64 0)).setCell ⟨w.heap.size + 1, 6, none⟩ (.int .i64 0)).setCell ⟨w.heap.size + 1, 7, none⟩ (.int .i64 0)).setCell ⟨w.heap.size + 1, 8, none⟩ (.slice none 0 0)) := (Fr.setCell' (Fr.setCell' (Fr.setCell' (Fr.setCell' (Fr.setCell' (Fr.setCell' (Fr.setCell' (Fr.setCell' (Fr.setCell' (Fr.refl [w.heap.size + 1] w2) (b := w.heap.size + 1) (i := 0) (.int .i64 0) (by simp)) (b := w.heap.size + 1) (i := 1) (.int .i64 0) (by simp)) (b := w.heap.size + 1) (i := 2) (.int .i64 0) (by simp)) (b := w.heap.size + 1) (i := 3) (.int .i64 0) (by simp)) (b := w.heap.size + 1) (i := 4) (.int .i64 0) (by simp)) (b := w.heap.size + 1) (i := 5) (.int .i64 0) (by simp)) (b := w.heap.size + 1) (i := 6) (.int .i64 0) (by simp)) (b := w.heap.size + 1) (i := 7) (.int .i64 0) (by simp)) (b := w.heap.size + 1) (i := 8) (.slice none 0 0) (by simp))
  rw [sets9] at o8
  generalize (((((((((w2.setCell ⟨w.heap.size + 1, 0, none⟩ (.int .i64 0)).setCell ⟨w.heap.size + 1, 1, none⟩ (.int .i64 0)).setCell ⟨w.heap.size + 1, 2, none⟩ (.int .i64 0)).setCell ⟨w.heap.size + 1, 3, none⟩ (.int .i64 0)).setCell ⟨w.heap.size + 1, 4, none⟩ (.int .i64 0)).setCell ⟨w.heap.size + 1, 5, none⟩ (.int .i64 0)).setCell ⟨w.heap.size + 1, 6, none⟩ (.int .i64 0)).setCell ⟨w.heap.size + 1, 7, none⟩ (.int .i64 0)).setCell ⟨w.heap.size + 1, 8, none⟩ (.slice none 0 0)) = w8 at *
  clear q0 q1 q2 q3 q4 q5 q6 q7 q8 z o1
  obtain ⟨q0, q1, q2, q3, q4, q5, q6, q7, q8⟩ := ch_cells (h := ⟨0, 0, 0, 0, 0, 0, 0, 0⟩) (lv := .slice none 0 0) o8
  refine bodyPost_ret (v := .tuple #[chV ⟨0, 0, 0, 0, 0, 0, 0, 0⟩ (.slice none 0 0), .iface 75 (.int .i64 11)]) ?_ rfl ?_
  · simp [results, Try.results35, go_sem, q0, q1, q2, q3, q4, q5, q6, q7, q8, chV]
  · exact ⟨rfl, F1.own F8 (by simp)⟩
def layN (s : St) (a : Int) (x : Ce) : Nat → St
  | 0 => s
  | 1 => s.poke a x.s
  | 2 => (s.poke a x.s).poke (a + 1) x.k
  | _ => ((s.poke a x.s).poke (a + 1) x.k).poke (a + 2) x.d
def LcAt (w : World) (s : St) (a : Int) (x : Ce) (p q : Nat) (u : Value) (wr : World) : Prop := ∃ i, i ≤ 3 ∧ u = .int .i64 (i : Nat) ∧ Ar wr p q (layN s a x i) ∧ Fr [q] w wr
def layC (s : St) (a : Int) (x : Ce) : St := ((s.poke a x.s).poke (a + 1) x.k).poke (a + 2) x.d
end Go.Proofs.Ytkdnhaglfbkhfaa.Vw
