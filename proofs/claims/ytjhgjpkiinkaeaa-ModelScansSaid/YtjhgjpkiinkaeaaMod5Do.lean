/- The developers' map: what an op does to it. -/
import Derived.Test.YtjhgjpkiinkaeaaMod5
namespace Go.Proofs.Ytjhgjpkiinkaeaa.Mp
open Go.RowKit Go.Maps Go.Proofs.Ytjhgjpkiinkaeaa.Ar Go.Proofs.Ytjhgjpkiinkaeaa.Og
set_option linter.unusedVariables false
set_option linter.unusedSimpArgs false
/-- What a call of Do leaves. -/
def DidAt (w : World) (q : Nat) (B : List Nat) (a : An) (V' W' : Nat → Int) (e : Ending) (w' : World) : Prop := ∃ pv B', e = .returned (ansv a pv) ∧ PairRow w' pv a.pairs ∧ (∀ g, g ∈ pv.ownBlock.toList → w.heap.size ≤ g ∧ g ∉ B') ∧ Mo w' q B' V' W' ∧ (∀ b, b ∈ B' → b ∈ B ∨ w.heap.size ≤ b) ∧ Fr B w w'
set_option maxRecDepth 100000 in
set_option maxHeartbeats 8000000 in
theorem do_bad (q : Nat) (B : List Nat) (V W : Nat → Int) (k ky v t wr : Int) (w : World) (hk : (Lit.int .i64 k).wf = true) (h : fit k ky v t = false) (R : Mo w q B V W) :
    Calls Try.prog 12 #[.pointer (some ⟨q, 0, none⟩), .agg #[.int .i64 k, .int .i64 ky, .int .i64 v, .int .i64 t], .int .i64 wr] w (DidAt w q B badA V W) := by
  go_enter Try.func12, Try.ntmps12
  go_wp2_with fail
  refine (is_any k ky v t _ hk).mono ?_; rintro e w1 ⟨rfl, F1⟩
  rw [h]
  have B1 := Boxed.start F1
  have R1 := R.kept B1.g (by simp)
  have hlt := Lib.hid R.lt
  clear F1 R
  obtain ⟨c0, c1, c2, c3⟩ := Pl.cells4 B1.o
  have A9 := B1.a
  obtain ⟨a0, a1, a2, a3, a4, a5⟩ := cells6 A9
  have z0 : ∀ j, w1.frozen? ⟨w.heap.size + 1, j, none⟩ = false := fun j => frozen_of_row _ _ _ _ _ A9
  go_wp2
  have hc := set6_heap A9 (.int .i64 10) (.bool false) (.int .i64 0) (.int .i64 0) (.int .i64 0) (.slice none 0 0)
  have ff := set6_fr w1 (w.heap.size + 1) (.int .i64 10) (.bool false) (.int .i64 0) (.int .i64 0) (.int .i64 0) (.slice none 0 0)
  unfold set6 at hc ff
  generalize ((((((w1.setCell ⟨w.heap.size + 1, 0, none⟩ (.int .i64 10)).setCell ⟨w.heap.size + 1, 1, none⟩ (.bool false)).setCell ⟨w.heap.size + 1, 2, none⟩ (.int .i64 0)).setCell ⟨w.heap.size + 1, 3, none⟩ (.int .i64 0)).setCell ⟨w.heap.size + 1, 4, none⟩ (.int .i64 0)).setCell ⟨w.heap.size + 1, 5, none⟩ (.slice none 0 0)) = w9 at *
  obtain ⟨e0, e1, e2, e3, e4, e5⟩ := cells6 hc
  exact bodyPost_ret (v := ansv badA (.slice none 0 0)) (by simp [results, Try.results12, go_sem, ansv, badA, e0, e1, e2, e3, e4, e5]) rfl
    ⟨_, B, rfl, no_pairs w9, by simp [Value.ownBlock], R1.kept ff (fun b hb hi => by have := hlt.out b hb; simp at hi; omega), fun b hb => .inl hb, (ownOne B1.g ff (by omega)).mono (by simp)⟩
/-- What holds behind a write of the map, and the answer's own store. -/
theorem wrote_end {w w1 w2 w9 : World} {q : Nat} {B : List Nat} {k ky v t : Int} {V' W' : Nat → Int} (B1 : Boxed w w1 w.heap.size k ky v t) (hlt : ∀ b, b ∈ B → b < w.heap.size) (H : WroteAt w1 q B V' W' w2) (ff : Fr [w.heap.size + 1] w2 w9) (a : An) (ha : a.pairs = []) :
    DidAt w q B a V' W' (.returned (ansv a (.slice none 0 0))) w9 := by
  obtain ⟨B', M, hb, F⟩ := H
  have hs : w.heap.size + 1 < w1.heap.size := (Array.getElem?_eq_some_iff.1 B1.a).1
  refine ⟨_, B', rfl, by rw [ha]; exact no_pairs w9, by simp [Value.ownBlock], M.kept ff (fun b hb2 hi => ?_), fun b hb2 => ?_, ownLast (frThen B1.g F) ff (by omega)⟩
  · simp at hi
    rcases hb b hb2 with h1 | h1
    · have := hlt b h1; omega
    · omega
  · rcases hb b hb2 with h1 | h1
    · exact .inl h1
    · exact .inr (by omega)
theorem Boxed.upB {w v v' : World} {b : Nat} {B : List Nat} {k ky x t : Int} (h : Boxed w v b k ky x t) (f : Fr B v v') (hs : w.heap.size = b) (hB : ∀ i, i ∈ B → i < b) : v'.heap[b + 1]? = some (.cells #[.int .i64 0, .bool false, .int .i64 0, .int .i64 0, .int .i64 0, .slice none 0 0] 31 (0, 0)) :=
  f.heap h.a (fun hi => by have := hB _ hi; omega)
theorem Boxed.wrote {w v v' : World} {q : Nat} {B : List Nat} {k ky x t : Int} {V' W' : Nat → Int} (h : Boxed w v w.heap.size k ky x t) (H : WroteAt v q B V' W' v') (hB : ∀ i, i ∈ B → i < w.heap.size) : v'.heap[w.heap.size + 1]? = some (.cells #[.int .i64 0, .bool false, .int .i64 0, .int .i64 0, .int .i64 0, .slice none 0 0] 31 (0, 0)) := by
  obtain ⟨B', -, -, F⟩ := H
  exact h.upB F rfl hB
set_option maxRecDepth 100000 in
set_option maxHeartbeats 8000000 in
theorem do_put (q n : Nat) (B : List Nat) (V W : Nat → Int) (v t wr : Int) (w : World) (hn : n < 64) (hv : 0 ≤ v) (h : fit 1 n v t = true) (R : Mo w q B V W) :
    Calls Try.prog 12 #[.pointer (some ⟨q, 0, none⟩), .agg #[.int .i64 1, .int .i64 n, .int .i64 v, .int .i64 t], .int .i64 wr] w (DidAt w q B ⟨0, false, 0, -1, 0, []⟩ (upd V n v) (upd W n wr)) := by
  have hk : (Lit.int .i64 1).wf = true := by decide
  go_enter Try.func12, Try.ntmps12
  go_wp2_with fail
  refine (is_any 1 n v t _ hk).mono ?_; rintro e w1 ⟨rfl, F1⟩
  rw [h]
  have B1 := Boxed.start F1
  have R1 := R.kept B1.g (by simp)
  have hlt := Lib.hid R.lt
  clear F1 R
  obtain ⟨c0, c1, c2, c3⟩ := Pl.cells4 B1.o
  go_wp2_with fail
  refine (write_any q B V W n true v wr v _ hn (.inl ⟨rfl, hv, rfl⟩) R1).mono ?_; rintro e w2 ⟨rfl, H⟩
  have A9 := B1.wrote H hlt.out
  clear c0 c1 c2 c3 R1
  obtain ⟨a0, a1, a2, a3, a4, a5⟩ := cells6 A9
  have z0 : ∀ j, w2.frozen? ⟨w.heap.size + 1, j, none⟩ = false := fun j => frozen_of_row _ _ _ _ _ A9
  go_wp2
  have hc := set6_heap A9 (.int .i64 0) (.bool false) (.int .i64 0) (.int .i64 (-1)) (.int .i64 0) (.slice none 0 0)
  have ff := set6_fr w2 (w.heap.size + 1) (.int .i64 0) (.bool false) (.int .i64 0) (.int .i64 (-1)) (.int .i64 0) (.slice none 0 0)
  unfold set6 at hc ff
  generalize ((((((w2.setCell ⟨w.heap.size + 1, 0, none⟩ (.int .i64 0)).setCell ⟨w.heap.size + 1, 1, none⟩ (.bool false)).setCell ⟨w.heap.size + 1, 2, none⟩ (.int .i64 0)).setCell ⟨w.heap.size + 1, 3, none⟩ (.int .i64 (-1))).setCell ⟨w.heap.size + 1, 4, none⟩ (.int .i64 0)).setCell ⟨w.heap.size + 1, 5, none⟩ (.slice none 0 0)) = w9 at *
  obtain ⟨e0, e1, e2, e3, e4, e5⟩ := cells6 hc
  exact bodyPost_ret (v := ansv ⟨0, false, 0, -1, 0, []⟩ (.slice none 0 0)) (by simp [results, Try.results12, go_sem, ansv, e0, e1, e2, e3, e4, e5]) rfl (wrote_end B1 hlt.out H ff _ rfl)
set_option maxRecDepth 100000 in
set_option maxHeartbeats 8000000 in
theorem do_del (q n : Nat) (B : List Nat) (V W : Nat → Int) (v t wr : Int) (w : World) (hn : n < 64) (h : fit 2 n v t = true) (R : Mo w q B V W) :
    Calls Try.prog 12 #[.pointer (some ⟨q, 0, none⟩), .agg #[.int .i64 2, .int .i64 n, .int .i64 v, .int .i64 t], .int .i64 wr] w (DidAt w q B ⟨0, false, 0, -1, 0, []⟩ (upd V n (-1)) (upd W n wr)) := by
  have hk : (Lit.int .i64 2).wf = true := by decide
  go_enter Try.func12, Try.ntmps12
  go_wp2_with fail
  refine (is_any 2 n v t _ hk).mono ?_; rintro e w1 ⟨rfl, F1⟩
  rw [h]
  have B1 := Boxed.start F1
  have R1 := R.kept B1.g (by simp)
  have hlt := Lib.hid R.lt
  clear F1 R
  obtain ⟨c0, c1, c2, c3⟩ := Pl.cells4 B1.o
  go_wp2_with fail
  refine (write_any q B V W n false 0 wr (-1) _ hn (.inr ⟨rfl, rfl, rfl⟩) R1).mono ?_; rintro e w2 ⟨rfl, H⟩
  have A9 := B1.wrote H hlt.out
  clear c0 c1 c2 c3 R1
  obtain ⟨a0, a1, a2, a3, a4, a5⟩ := cells6 A9
  have z0 : ∀ j, w2.frozen? ⟨w.heap.size + 1, j, none⟩ = false := fun j => frozen_of_row _ _ _ _ _ A9
  go_wp2
  have hc := set6_heap A9 (.int .i64 0) (.bool false) (.int .i64 0) (.int .i64 (-1)) (.int .i64 0) (.slice none 0 0)
  have ff := set6_fr w2 (w.heap.size + 1) (.int .i64 0) (.bool false) (.int .i64 0) (.int .i64 (-1)) (.int .i64 0) (.slice none 0 0)
  unfold set6 at hc ff
  generalize ((((((w2.setCell ⟨w.heap.size + 1, 0, none⟩ (.int .i64 0)).setCell ⟨w.heap.size + 1, 1, none⟩ (.bool false)).setCell ⟨w.heap.size + 1, 2, none⟩ (.int .i64 0)).setCell ⟨w.heap.size + 1, 3, none⟩ (.int .i64 (-1))).setCell ⟨w.heap.size + 1, 4, none⟩ (.int .i64 0)).setCell ⟨w.heap.size + 1, 5, none⟩ (.slice none 0 0)) = w9 at *
  obtain ⟨e0, e1, e2, e3, e4, e5⟩ := cells6 hc
  exact bodyPost_ret (v := ansv ⟨0, false, 0, -1, 0, []⟩ (.slice none 0 0)) (by simp [results, Try.results12, go_sem, ansv, e0, e1, e2, e3, e4, e5]) rfl (wrote_end B1 hlt.out H ff _ rfl)
/-- What holds behind a call that wrote nothing, and the answer's own store. -/
theorem read_end {w w1 w2 w9 : World} {q : Nat} {B : List Nat} {k ky v t : Int} {V W : Nat → Int} (B1 : Boxed w w1 w.heap.size k ky v t) (hlt : ∀ b, b ∈ B → b < w.heap.size) (M : Mo w1 q B V W) (F : Fr [] w1 w2) (ff : Fr [w.heap.size + 1] w2 w9) (a : An) (pv : Value) (hp : PairRow w2 pv a.pairs) (hg : ∀ g, g ∈ pv.ownBlock.toList → w1.heap.size ≤ g) :
    DidAt w q B a V W (.returned (ansv a pv)) w9 := by
  have hs : w.heap.size + 1 < w1.heap.size := (Array.getElem?_eq_some_iff.1 B1.a).1
  refine ⟨pv, B, rfl, hp.kept ff (fun g hi hb => ?_), fun g hi => ⟨?_, fun hb => ?_⟩, (M.kept F (by simp)).kept ff (fun b hb2 hi => ?_), fun b hb => .inl hb, (ownOne (B1.g.trans F) ff (by omega)).mono (by simp)⟩
  · have := hg g hi; simp at hb; omega
  · have := hg g hi; omega
  · have := hg g hi; have := hlt g hb; omega
  · have := hlt b hb2; simp at hi; omega
set_option maxRecDepth 100000 in
set_option maxHeartbeats 8000000 in
theorem do_get (q n : Nat) (B : List Nat) (V W : Nat → Int) (v t wr : Int) (w : World) (hn : n < 64) (h : fit 3 n v t = true) (R : Mo w q B V W) :
    Calls Try.prog 12 #[.pointer (some ⟨q, 0, none⟩), .agg #[.int .i64 3, .int .i64 n, .int .i64 v, .int .i64 t], .int .i64 wr] w (DidAt w q B ⟨0, decide (0 ≤ V n), max 0 (V n), W n, 0, []⟩ V W) := by
  have hk : (Lit.int .i64 3).wf = true := by decide
  go_enter Try.func12, Try.ntmps12
  go_wp2_with fail
  refine (is_any 3 n v t _ hk).mono ?_; rintro e w1 ⟨rfl, F1⟩
  rw [h]
  have B1 := Boxed.start F1
  have R1 := R.kept B1.g (by simp)
  have hlt := Lib.hid R.lt
  clear F1 R
  obtain ⟨c0, c1, c2, c3⟩ := Pl.cells4 B1.o
  go_wp2_with fail
  refine (get_any q B V W n _ hn R1).mono ?_; rintro e w2 ⟨rfl, F2⟩
  have R2 := R1.kept F2 (by simp)
  generalize max 0 (V n) = m at *
  clear c0 c1 c2 c3
  obtain ⟨c0, c1, c2, c3⟩ := Pl.cells4 (heapUp F2 B1.o)
  go_wp2_with fail
  refine (writer_any q B V W n _ hn R2).mono ?_; rintro e w3 ⟨rfl, F3⟩
  have F4 := F2.trans F3
  have A9 := heapUp F4 B1.a
  clear c0 c1 c2 c3 R2 F2 F3
  obtain ⟨a0, a1, a2, a3, a4, a5⟩ := cells6 A9
  have z0 : ∀ j, w3.frozen? ⟨w.heap.size + 1, j, none⟩ = false := fun j => frozen_of_row _ _ _ _ _ A9
  go_wp2
  have hc := set6_heap A9 (.int .i64 0) (.bool (decide (0 ≤ V n))) (.int .i64 m) (.int .i64 (W n)) (.int .i64 0) (.slice none 0 0)
  have ff := set6_fr w3 (w.heap.size + 1) (.int .i64 0) (.bool (decide (0 ≤ V n))) (.int .i64 m) (.int .i64 (W n)) (.int .i64 0) (.slice none 0 0)
  unfold set6 at hc ff
  generalize ((((((w3.setCell ⟨w.heap.size + 1, 0, none⟩ (.int .i64 0)).setCell ⟨w.heap.size + 1, 1, none⟩ (.bool (decide (0 ≤ V n)))).setCell ⟨w.heap.size + 1, 2, none⟩ (.int .i64 m)).setCell ⟨w.heap.size + 1, 3, none⟩ (.int .i64 (W n))).setCell ⟨w.heap.size + 1, 4, none⟩ (.int .i64 0)).setCell ⟨w.heap.size + 1, 5, none⟩ (.slice none 0 0)) = w9 at *
  obtain ⟨e0, e1, e2, e3, e4, e5⟩ := cells6 hc
  exact bodyPost_ret (v := ansv ⟨0, decide (0 ≤ V n), m, W n, 0, []⟩ (.slice none 0 0)) (by simp [results, Try.results12, go_sem, ansv, e0, e1, e2, e3, e4, e5]) rfl (read_end B1 hlt.out R1 F4 ff _ _ (no_pairs _) (by simp [Value.ownBlock]))
set_option maxRecDepth 100000 in
set_option maxHeartbeats 8000000 in
theorem do_scan (q n m : Nat) (B : List Nat) (V W : Nat → Int) (v wr : Int) (w : World) (hn : n < 64) (hm : m < 64) (h : fit 4 n v m = true) (R : Mo w q B V W) :
    Calls Try.prog 12 #[.pointer (some ⟨q, 0, none⟩), .agg #[.int .i64 4, .int .i64 n, .int .i64 v, .int .i64 m], .int .i64 wr] w (DidAt w q B ⟨0, false, 0, -1, 0, scan V n m⟩ V W) := by
  have hk : (Lit.int .i64 4).wf = true := by decide
  go_enter Try.func12, Try.ntmps12
  go_wp2_with fail
  refine (is_any 4 n v m _ hk).mono ?_; rintro e w1 ⟨rfl, F1⟩
  rw [h]
  have B1 := Boxed.start F1
  have R1 := R.kept B1.g (by simp)
  have hlt := Lib.hid R.lt
  clear F1 R
  obtain ⟨c0, c1, c2, c3⟩ := Pl.cells4 B1.o
  go_wp2_with fail
  refine (pairs_any q B V W n m _ hn hm R1).mono ?_; rintro e w3 ⟨⟨pv, rfl, hp, hg⟩, F4⟩
  have HP := Lib.hid hp
  have HG := Lib.hid hg
  obtain ⟨x, cap, rfl, -, -⟩ := hp
  generalize (scan V n m).length = L at *
  have A9 := heapUp F4 B1.a
  clear c0 c1 c2 c3 hg
  obtain ⟨a0, a1, a2, a3, a4, a5⟩ := cells6 A9
  have z0 : ∀ j, w3.frozen? ⟨w.heap.size + 1, j, none⟩ = false := fun j => frozen_of_row _ _ _ _ _ A9
  go_wp2
  have hc := set6_heap A9 (.int .i64 0) (.bool false) (.int .i64 0) (.int .i64 (-1)) (.int .i64 0) (.slice x L cap)
  have ff := set6_fr w3 (w.heap.size + 1) (.int .i64 0) (.bool false) (.int .i64 0) (.int .i64 (-1)) (.int .i64 0) (.slice x L cap)
  unfold set6 at hc ff
  generalize ((((((w3.setCell ⟨w.heap.size + 1, 0, none⟩ (.int .i64 0)).setCell ⟨w.heap.size + 1, 1, none⟩ (.bool false)).setCell ⟨w.heap.size + 1, 2, none⟩ (.int .i64 0)).setCell ⟨w.heap.size + 1, 3, none⟩ (.int .i64 (-1))).setCell ⟨w.heap.size + 1, 4, none⟩ (.int .i64 0)).setCell ⟨w.heap.size + 1, 5, none⟩ (.slice x L cap)) = w9 at *
  obtain ⟨e0, e1, e2, e3, e4, e5⟩ := cells6 hc
  exact bodyPost_ret (v := ansv ⟨0, false, 0, -1, 0, scan V n m⟩ (.slice x L cap)) (by simp [results, Try.results12, go_sem, ansv, e0, e1, e2, e3, e4, e5]) rfl (read_end B1 hlt.out R1 F4 ff _ _ HP.out HG.out)
theorem do_any (q : Nat) (B : List Nat) (V W : Nat → Int) (k ky v t wr : Int) (w : World) (hk : (Lit.int .i64 k).wf = true) (R : Mo w q B V W) :
    Calls Try.prog 12 #[.pointer (some ⟨q, 0, none⟩), .agg #[.int .i64 k, .int .i64 ky, .int .i64 v, .int .i64 t], .int .i64 wr] w (DidAt w q B (ans V W k ky v t) (nxV V k ky v t) (nxW W k ky v t wr)) := by
  cases h : fit k ky v t with
  | false =>
    rw [show ans V W k ky v t = badA by unfold ans; rw [h]; rfl, show nxV V k ky v t = V by unfold nxV; rw [h]; rfl, show nxW W k ky v t wr = W by unfold nxW; rw [h]; rfl]
    exact do_bad q B V W k ky v t wr w hk h R
  | true =>
    obtain ⟨hk, k1, k2, k3, k4⟩ := fit_key h
    rw [show ans V W k ky v t = doA V W k ky v t by unfold ans; rw [h]; rfl, show nxV V k ky v t = doV V k ky v by unfold nxV; rw [h]; rfl, show nxW W k ky v t wr = doW W k ky wr by unfold nxW; rw [h]; rfl]
    obtain ⟨n, rfl⟩ : ∃ n : Nat, ky = n := ⟨ky.toNat, by omega⟩
    have hn : n < 64 := by omega
    rcases hk with rfl | rfl | rfl | rfl
    · exact do_put q n B V W v t wr w hn (k4 rfl).1 h R
    · exact do_del q n B V W v t wr w hn h R
    · exact do_get q n B V W v t wr w hn h R
    · obtain ⟨m, rfl⟩ : ∃ m : Nat, t = m := ⟨t.toNat, by have := k3 rfl; omega⟩
      exact do_scan q n m B V W v wr w hn (by have := k3 rfl; omega) h R
/-- The developers' map does what a map is asked to do. -/
theorem mapC : MapC Mo where
  kept := fun h f hS => h.kept f hS
  lt := fun h => h.lt
  new := new_any
  do_ := fun q B V W k ky v t wr w hk _ h => do_any q B V W k ky v t wr w hk h
  get := get_any
  writer := writer_any
  all := all_any
  copy := copy_any
end Go.Proofs.Ytjhgjpkiinkaeaa.Mp
