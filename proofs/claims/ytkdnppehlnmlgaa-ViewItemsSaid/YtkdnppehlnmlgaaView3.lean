/- Package view: a chunk that isn't there; a chunk laid. -/
import Derived.Test.YtkdnppehlnmlgaaView2
import Derived.Test.YtkdnppehlnmlgaaFirst
namespace Go.Proofs.Ytkdnppehlnmlgaa.Vw
open Go.RowKit Go.Proofs.Ytkdnppehlnmlgaa.Ar Go.Proofs.Ytkdnppehlnmlgaa.Mx
set_option linter.unusedVariables false
set_option linter.unusedSimpArgs false
def ErrPlaceV : Value := .iface 50 (.int .i64 11)
set_option maxHeartbeats 1600000 in
theorem chunk_no (t wd v a : Int) (n p q : Nat) (s : St) (w : World) (h1 : 1 ≤ n) (h2 : n ≤ 16) (h3 : n ≤ s.l.length) (h4 : s.l.length ≤ 20000) (hA : Ar w p q s) (ht : thereB s.l.length n a = false) :
    Calls Try.prog 11 #[.agg #[.int .i64 t, .int .i64 n, .int .i64 wd, .int .i64 v], .pointer (some ⟨p, 0, none⟩), .int .i64 a] w fun e w' => e = .returned (.tuple #[chV ⟨0, 0, 0, 0, 0, 0, 0, 0⟩ (.slice none 0 0), .iface 50 (.int .i64 11)]) ∧ Fr [] w w' := by
  have isE := Er.isE
  have F0 := ((Fr.refl [] w).alloc (.cells #[.int .i64 t, .int .i64 n, .int .i64 wd, .int .i64 v] 38))
  have o1 := Ob.newAt (sizeA w (.cells #[.int .i64 t, .int .i64 n, .int .i64 wd, .int .i64 v] 38)) 26 #[.int .i64 0, .int .i64 0, .int .i64 0, .int .i64 0, .int .i64 0, .int .i64 0, .int .i64 0, .int .i64 0, .slice none 0 0]
  have F1 := F0.alloc (.cells #[.int .i64 0, .int .i64 0, .int .i64 0, .int .i64 0, .int .i64 0, .int .i64 0, .int .i64 0, .int .i64 0, .slice none 0 0] 26)
  clear F0
  go_enter Try.func11, Try.ntmps11
  go_wp2_with fail
  generalize World.alloc (World.alloc w _) _ = w1 at *
  refine (there_any t n wd v a p q s _ (by omega) (by omega) (by omega) h4 (hA.kept F1 (by simp) (by simp))).mono ?_; rintro e w2 ⟨rfl, F2⟩
  rw [ht]
  clear ht
  replace o1 := o1.up F2
  replace F1 := F1.trans F2
  clear F2 hA
  have z := o1.frozen
  obtain ⟨q0, q1, q2, q3, q4, q5, q6, q7, q8⟩ := ch_cells (h := ⟨0, 0, 0, 0, 0, 0, 0, 0⟩) (lv := .slice none 0 0) o1
  go_wp2_with fail
  have o8 := (Ob.set (Ob.set (Ob.set (Ob.set (Ob.set (Ob.set (Ob.set (Ob.set (Ob.set o1 (i := 0) (.int .i64 0)) (i := 1) (.int .i64 0)) (i := 2) (.int .i64 0)) (i := 3) (.int .i64 0)) (i := 4) (.int .i64 0)) (i := 5) (.int .i64 0)) (i := 6) (.int .i64 0)) (i := 7) (.int .i64 0)) (i := 8) (.slice none 0 0))
  have F8 : Fr [w.heap.size + 1] w2 (((((((((w2.setCell ⟨w.heap.size + 1, 0, none⟩ (.int .i64 0)).setCell ⟨w.heap.size + 1, 1, none⟩ (.int .i64 0)).setCell ⟨w.heap.size + 1, 2, none⟩ (.int .i64 0)).setCell ⟨w.heap.size + 1, 3, none⟩ (.int .i64 0)).setCell ⟨w.heap.size + 1, 4, none⟩ (.int .i64 0)).setCell ⟨w.heap.size + 1, 5, none⟩ (.int .i64 0)).setCell ⟨w.heap.size + 1, 6, none⟩ (.int .i64 0)).setCell ⟨w.heap.size + 1, 7, none⟩ (.int .i64 0)).setCell ⟨w.heap.size + 1, 8, none⟩ (.slice none 0 0)) := (Fr.setCell' (Fr.setCell' (Fr.setCell' (Fr.setCell' (Fr.setCell' (Fr.setCell' (Fr.setCell' (Fr.setCell' (Fr.setCell' (Fr.refl [w.heap.size + 1] w2) (b := w.heap.size + 1) (i := 0) (.int .i64 0) (by simp)) (b := w.heap.size + 1) (i := 1) (.int .i64 0) (by simp)) (b := w.heap.size + 1) (i := 2) (.int .i64 0) (by simp)) (b := w.heap.size + 1) (i := 3) (.int .i64 0) (by simp)) (b := w.heap.size + 1) (i := 4) (.int .i64 0) (by simp)) (b := w.heap.size + 1) (i := 5) (.int .i64 0) (by simp)) (b := w.heap.size + 1) (i := 6) (.int .i64 0) (by simp)) (b := w.heap.size + 1) (i := 7) (.int .i64 0) (by simp)) (b := w.heap.size + 1) (i := 8) (.slice none 0 0) (by simp))
  rw [sets9] at o8
  generalize (((((((((w2.setCell ⟨w.heap.size + 1, 0, none⟩ (.int .i64 0)).setCell ⟨w.heap.size + 1, 1, none⟩ (.int .i64 0)).setCell ⟨w.heap.size + 1, 2, none⟩ (.int .i64 0)).setCell ⟨w.heap.size + 1, 3, none⟩ (.int .i64 0)).setCell ⟨w.heap.size + 1, 4, none⟩ (.int .i64 0)).setCell ⟨w.heap.size + 1, 5, none⟩ (.int .i64 0)).setCell ⟨w.heap.size + 1, 6, none⟩ (.int .i64 0)).setCell ⟨w.heap.size + 1, 7, none⟩ (.int .i64 0)).setCell ⟨w.heap.size + 1, 8, none⟩ (.slice none 0 0)) = w8 at *
  clear q0 q1 q2 q3 q4 q5 q6 q7 q8 z o1
  obtain ⟨q0, q1, q2, q3, q4, q5, q6, q7, q8⟩ := ch_cells (h := ⟨0, 0, 0, 0, 0, 0, 0, 0⟩) (lv := .slice none 0 0) o8
  refine bodyPost_ret (v := .tuple #[chV ⟨0, 0, 0, 0, 0, 0, 0, 0⟩ (.slice none 0 0), .iface 50 (.int .i64 11)]) ?_ rfl ?_
  · simp [results, Try.results11, go_sem, q0, q1, q2, q3, q4, q5, q6, q7, q8, chV]
  · exact ⟨rfl, F1.own F8 (by simp)⟩
theorem ix3_0 (a b c : Value) (W : World) : (Instr.index 80 (.agg #[a, b, c]) (.int .i64 0)).run Try.prog W = .ok a W := by kernel_rfl
theorem ix3_1 (a b c : Value) (W : World) : (Instr.index 80 (.agg #[a, b, c]) (.int .i64 1)).run Try.prog W = .ok b W := by kernel_rfl
theorem ix3_2 (a b c : Value) (W : World) : (Instr.index 80 (.agg #[a, b, c]) (.int .i64 2)).run Try.prog W = .ok c W := by kernel_rfl
def layN (s : St) (a : Int) (x : Ce) : Nat → St
  | 0 => s
  | 1 => s.poke a x.s
  | 2 => (s.poke a x.s).poke (a + 1) x.k
  | _ => ((s.poke a x.s).poke (a + 1) x.k).poke (a + 2) x.d
def LcAt (w : World) (s : St) (a : Int) (x : Ce) (p q : Nat) (u : Value) (wr : World) : Prop := ∃ i, i ≤ 3 ∧ u = .int .i64 (i : Nat) ∧ Ar wr p q (layN s a x i) ∧ Fr [q] w wr
def layC (s : St) (a : Int) (x : Ce) : St := ((s.poke a x.s).poke (a + 1) x.k).poke (a + 2) x.d
set_option maxHeartbeats 1600000 in
theorem layCell_any (a : Int) (x : Ce) (p q : Nat) (s : St) (w : World) (h0 : 0 ≤ a) (h1 : a ≤ 100000) (hA : Ar w p q s) :
    Calls Try.prog 27 #[.pointer (some ⟨p, 0, none⟩), .int .i64 a, .agg #[.int .i64 x.s, .int .i64 x.k, .int .i64 x.d]] w fun e w' => e = .returned (.tuple #[]) ∧ Ar w' p q (layC s a x) ∧ Fr [q] w w' := by
  have x0 := ix3_0 (.int .i64 x.s) (.int .i64 x.k) (.int .i64 x.d)
  have x1 := ix3_1 (.int .i64 x.s) (.int .i64 x.k) (.int .i64 x.d)
  have x2 := ix3_2 (.int .i64 x.s) (.int .i64 x.k) (.int .i64 x.d)
  have F0 := ((Fr.refl [] w).alloc (.cells #[.int .i64 x.s, .int .i64 x.k, .int .i64 x.d] 29))
  have A0 := hA.kept F0 (by simp) (by simp)
  go_enter Try.func27, Try.ntmps27
  go_wp2_with fail
  go_loopw [15] (LcAt w s a x p q) (fun u _ => 3 - (intOf u).toNat)
  case atStart => exact ⟨0, by omega, rfl, A0, F0.mono (by simp)⟩
  case round =>
    obtain ⟨i, hi, rfl, A, F⟩ := hrel
    have h4 : i = 0 ∨ i = 1 ∨ i = 2 ∨ i = 3 := by omega
    clear A0 F0
    rcases h4 with rfl | rfl | rfl | rfl
    · go_wp2_with fail
      refine (poke_any _ p q _ _ _ A).mono ?_; rintro e w5 ⟨rfl, A5, F5⟩
      go_wp2_with fail
      go_roundw
      case rel => exact ⟨1, by omega, by go_num, by simpa [layN] using A5, F.trans F5⟩
      case measure => simp [intOf]
    · go_wp2_with fail
      refine (poke_any _ p q _ _ _ A).mono ?_; rintro e w5 ⟨rfl, A5, F5⟩
      go_wp2_with fail
      go_roundw
      case rel => exact ⟨2, by omega, by go_num, by simpa [layN] using A5, F.trans F5⟩
      case measure => simp [intOf]
    · go_wp2_with fail
      refine (poke_any _ p q _ _ _ A).mono ?_; rintro e w5 ⟨rfl, A5, F5⟩
      go_wp2_with fail
      go_roundw
      case rel => exact ⟨3, by omega, by go_num, by simpa [layN] using A5, F.trans F5⟩
      case measure => simp [intOf]
    · go_wp2
      go_end0
      exact ⟨rfl, A, F⟩
end Go.Proofs.Ytkdnppehlnmlgaa.Vw
