/- The reference's map: what an op does to it. -/
import Derived.Test.YtjhgjpkiinkaeaaRMap
import Derived.Test.YtjhgjpkiinkaeaaRefIs
namespace Go.Proofs.Ytjhgjpkiinkaeaa.Mp
open Go.RowKit Go.Proofs.Ytjhgjpkiinkaeaa.Ar Go.Proofs.Ytjhgjpkiinkaeaa.Og
set_option linter.unusedVariables false
set_option linter.unusedSimpArgs false
theorem sizeAlloc (w : World) (o : Obj) : (w.alloc o).heap.size = w.heap.size + 1 := by unfold World.alloc; simp
theorem atAlloc {w w1 : World} {o : Obj} {b : Nat} (hs : w.heap.size = b) (f : Fr [] (w.alloc o) w1) : w1.heap[b]? = some o := by subst hs; exact heapUp f (Go.heap_alloc_new w o)
/-- What a call of Do has laid before it asks: its op, and an answer of zeros. -/
structure Boxed (w v : World) (b : Nat) (k ky x t : Int) : Prop where
  g : Fr [] w v
  o : v.heap[b]? = some (.cells #[.int .i64 k, .int .i64 ky, .int .i64 x, .int .i64 t] 34 (0, 0))
  a : v.heap[b + 1]? = some (.cells #[.int .i64 0, .bool false, .int .i64 0, .int .i64 0, .int .i64 0, .slice none 0 0] 31 (0, 0))
theorem Boxed.start {w v : World} {k ky x t : Int} (f : Fr [] ((w.alloc (.cells #[.int .i64 k, .int .i64 ky, .int .i64 x, .int .i64 t] 34)).alloc (.cells #[.int .i64 0, .bool false, .int .i64 0, .int .i64 0, .int .i64 0, .slice none 0 0] 31)) v) : Boxed w v w.heap.size k ky x t :=
  ⟨(((Fr.refl [] w).alloc _).alloc _).trans f, atAlloc rfl (((Fr.refl [] (w.alloc (.cells #[.int .i64 k, .int .i64 ky, .int .i64 x, .int .i64 t] 34))).alloc _).trans f), atAlloc (sizeAlloc _ _) f⟩
def set6 (w : World) (b : Nat) (y0 y1 y2 y3 y4 y5 : Value) : World := (((((w.setCell ⟨b, 0, none⟩ y0).setCell ⟨b, 1, none⟩ y1).setCell ⟨b, 2, none⟩ y2).setCell ⟨b, 3, none⟩ y3).setCell ⟨b, 4, none⟩ y4).setCell ⟨b, 5, none⟩ y5
theorem set6_fr (w : World) (b : Nat) (y0 y1 y2 y3 y4 y5 : Value) : Fr [b] w (set6 w b y0 y1 y2 y3 y4 y5) :=
  (((((Fr.setCell (w := w) (b := b) (i := 0) y0 (List.mem_singleton.2 rfl)).setCell' y1 (List.mem_singleton.2 rfl)).setCell' y2 (List.mem_singleton.2 rfl)).setCell' y3 (List.mem_singleton.2 rfl)).setCell' y4 (List.mem_singleton.2 rfl)).setCell' y5 (List.mem_singleton.2 rfl)
theorem set6_heap {w : World} {b : Nat} {x0 x1 x2 x3 x4 x5 : Value} {T : TypeId} (h : w.heap[b]? = some (.cells #[x0, x1, x2, x3, x4, x5] T (0, 0))) (y0 y1 y2 y3 y4 y5 : Value) : (set6 w b y0 y1 y2 y3 y4 y5).heap[b]? = some (.cells #[y0, y1, y2, y3, y4, y5] T (0, 0)) := by
  have h0 := heap_setCell_same _ b 0 _ _ y0 h
  have h1 := heap_setCell_same _ b 1 _ _ y1 h0
  have h2 := heap_setCell_same _ b 2 _ _ y2 h1
  have h3 := heap_setCell_same _ b 3 _ _ y3 h2
  have h4 := heap_setCell_same _ b 4 _ _ y4 h3
  have h5 := heap_setCell_same _ b 5 _ _ y5 h4
  exact h5.trans rfl
theorem frThen {S : List Nat} {a b c : World} (h : Fr [] a b) (k : Fr S b c) : Fr S a c := (h.mono (by simp)).trans k
theorem ownLast {S : List Nat} {p : Nat} {a b c : World} (h : Fr S a b) (k : Fr [p] b c) (hp : a.heap.size ≤ p) : Fr S a c :=
  ⟨k.os.trans h.os, k.tape.trans h.tape, k.output.trans h.output, Nat.le_trans h.size k.size, fun i hi hn => (k.block i (Nat.lt_of_lt_of_le hi h.size) (by simp; omega)).trans (h.block i hi hn)⟩
theorem ownOne {p : Nat} {a b c : World} (h : Fr [] a b) (k : Fr [p] b c) (hp : a.heap.size ≤ p) : Fr [] a c := h.own k (fun i hi => by rw [List.mem_singleton.1 hi]; exact hp)
set_option maxRecDepth 100000 in
set_option maxHeartbeats 8000000 in
/-- An op that may not be. -/
theorem doR_bad (p : Nat) (k ky v t wr : Int) (w : World) (h : fit k ky v t = false) :
    Calls Try.prog 13 #[.pointer (some ⟨p, 0, none⟩), .agg #[.int .i64 k, .int .i64 ky, .int .i64 v, .int .i64 t], .int .i64 wr] w fun e w' => e = .returned (ansv badA (.slice none 0 0)) ∧ Fr [] w w' := by
  go_enter Try.func13, Try.ntmps13
  go_wp2_with fail
  refine (Ro.isOp_any k ky v t _).mono ?_; rintro e w1 ⟨rfl, F1⟩
  rw [h]
  have B := Boxed.start F1
  have hsz : w.heap.size ≤ w.heap.size + 1 := by omega
  clear F1
  obtain ⟨a0, a1, a2, a3, a4, a5⟩ := cells6 B.a
  have z0 : ∀ j, w1.frozen? ⟨w.heap.size + 1, j, none⟩ = false := fun j => frozen_of_row _ _ _ _ _ B.a
  go_wp2
  have hc := cells6 (set6_heap B.a (.int .i64 10) (.bool false) (.int .i64 0) (.int .i64 0) (.int .i64 0) (.slice none 0 0))
  have hf := ownOne B.g (set6_fr w1 (w.heap.size + 1) (.int .i64 10) (.bool false) (.int .i64 0) (.int .i64 0) (.int .i64 0) (.slice none 0 0)) (by omega)
  unfold set6 at hc hf
  generalize ((((((w1.setCell ⟨w.heap.size + 1, 0, none⟩ (.int .i64 10)).setCell ⟨w.heap.size + 1, 1, none⟩ (.bool false)).setCell ⟨w.heap.size + 1, 2, none⟩ (.int .i64 0)).setCell ⟨w.heap.size + 1, 3, none⟩ (.int .i64 0)).setCell ⟨w.heap.size + 1, 4, none⟩ (.int .i64 0)).setCell ⟨w.heap.size + 1, 5, none⟩ (.slice none 0 0)) = w9 at *
  obtain ⟨e0, e1, e2, e3, e4, e5⟩ := hc
  exact bodyPost_ret (v := ansv badA (.slice none 0 0)) (by simp [results, Try.results13, go_sem, ansv, badA, e0, e1, e2, e3, e4, e5]) rfl ⟨rfl, hf⟩
set_option maxRecDepth 100000 in
set_option maxHeartbeats 8000000 in
/-- A put. -/
theorem doR_put (p n : Nat) (V W : Nat → Int) (v t wr : Int) (w : World) (hn : n < 64) (h : fit 1 n v t = true) (R : Rm w p V W) :
    Calls Try.prog 13 #[.pointer (some ⟨p, 0, none⟩), .agg #[.int .i64 1, .int .i64 n, .int .i64 v, .int .i64 t], .int .i64 wr] w fun e w' => e = .returned (ansv ⟨0, false, 0, -1, 0, []⟩ (.slice none 0 0)) ∧ Rm w' p (upd V n v) (upd W n wr) ∧ Fr [p] w w' := by
  go_enter Try.func13, Try.ntmps13
  go_wp2_with fail
  refine (Ro.isOp_any 1 n v t _).mono ?_; rintro e w1 ⟨rfl, F1⟩
  rw [h]
  have B := Boxed.start F1
  have hlt := R.lt
  have R1 := R.kept B.g (by simp)
  have hsz : w.heap.size ≤ w.heap.size + 1 := by omega
  clear F1 R
  have HB := Lib.hid B.o
  obtain ⟨c0, c1, c2, c3⟩ := Pl.cells4 B.o
  go_wp2_with fail
  clear c0 c1 c2 c3
  refine wp_region_env (by kernel_rfl) [p] (fun w2 F2 => ?_)
  refine env_pass [true, true, true, true, true, true, true, true, true, true, true, true, false, true, true, false, false] 3 (n := 106) (listed' := #[true, true, true, true, true, true, true, true, true, true, true, true, false, true, true, false, false]) rfl (by kernel_rfl) (by kernel_rfl) (by kernel_rfl) rfl (by kernel_rfl) (fun _ _ d _ _ h => by cases d <;> exact h) (F2.mono (by simp)) ?_
  apply Exists.intro
  refine ⟨fun wf Ff => ?_, ?_⟩
  · obtain ⟨c0, c1, c2, c3⟩ := Pl.cells4 (Ff.heap HB.out (by simp; omega))
    have k0 := In.cell c0
    have k1 := In.cell c1
    have k2 := In.cell c2
    have k3 := In.cell c3
    clear c0 c1 c2 c3
    simp only [sel]
    repeat (go_big_quiet_step (fail))
    exact wpQuiet_nil rfl
  refine env_one 12 (by kernel_rfl) rfl rfl (fun w3 F3 => ?_)
  have R3 := R1.kept (F2.trans F3) (by simp)
  have D3 : Fr [p] w1 w3 := (F2.trans F3).mono (by simp)
  have q0 := R3.cellV hn
  have z0 := R3.frozen n
  clear F2 F3 R1
  go_wp2
  have R4 := R3.setV hn v
  have E4 : Fr [p] w3 (w3.setCell ⟨p, n, none⟩ (.int .i64 v)) := Fr.setCell _ (List.mem_singleton.2 rfl)
  generalize (w3.setCell ⟨p, n, none⟩ (.int .i64 v)) = w4 at *
  have D4 := D3.trans E4
  clear q0 z0 R3 D3 E4
  refine nx_normal ⟨D4, ?_⟩
  refine env_one 15 (by kernel_rfl) rfl rfl (fun w5 F5 => ?_)
  have R5 := R4.kept F5 (by simp)
  have D5 := D4.then F5
  clear R4 D4 F5
  go_wp2
  refine nx_normal ⟨D5, ?_⟩
  refine env_one 16 (by kernel_rfl) rfl rfl (fun w6 F6 => ?_)
  have R6 := R5.kept F6 (by simp)
  have D6 := D5.then F6
  clear R5 D5 F6
  have q0 := R6.cellW hn
  have z0 := R6.frozen (64 + n)
  go_wp2
  have R7 := R6.setW hn wr
  have E7 : Fr [p] w6 (w6.setCell ⟨p, 64 + n, none⟩ (.int .i64 wr)) := Fr.setCell _ (List.mem_singleton.2 rfl)
  generalize (w6.setCell ⟨p, 64 + n, none⟩ (.int .i64 wr)) = w7 at *
  have D7 := D6.trans E7
  clear q0 z0 R6 D6 E7
  refine nx_normal ⟨D7, ?_⟩
  refine env_done (by kernel_rfl) (fun w8 F8 => ?_)
  have R8 := R7.kept F8 (by simp)
  have D8 := D7.then F8
  clear R7 D7 F8
  have hpb : w.heap.size + 1 ∉ [p] := by simp; omega
  have ha8 := D8.heap B.a hpb
  obtain ⟨a0, a1, a2, a3, a4, a5⟩ := cells6 ha8
  have z0 : ∀ j, w8.frozen? ⟨w.heap.size + 1, j, none⟩ = false := fun j => frozen_of_row _ _ _ _ _ ha8
  go_wp2
  have hc := cells6 (set6_heap ha8 (.int .i64 0) (.bool false) (.int .i64 0) (.int .i64 (-1)) (.int .i64 0) (.slice none 0 0))
  have ff := set6_fr w8 (w.heap.size + 1) (.int .i64 0) (.bool false) (.int .i64 0) (.int .i64 (-1)) (.int .i64 0) (.slice none 0 0)
  unfold set6 at hc ff
  generalize ((((((w8.setCell ⟨w.heap.size + 1, 0, none⟩ (.int .i64 0)).setCell ⟨w.heap.size + 1, 1, none⟩ (.bool false)).setCell ⟨w.heap.size + 1, 2, none⟩ (.int .i64 0)).setCell ⟨w.heap.size + 1, 3, none⟩ (.int .i64 (-1))).setCell ⟨w.heap.size + 1, 4, none⟩ (.int .i64 0)).setCell ⟨w.heap.size + 1, 5, none⟩ (.slice none 0 0)) = w9 at *
  obtain ⟨e0, e1, e2, e3, e4, e5⟩ := hc
  exact bodyPost_ret (v := ansv ⟨0, false, 0, -1, 0, []⟩ (.slice none 0 0)) (by simp [results, Try.results13, go_sem, ansv, e0, e1, e2, e3, e4, e5]) rfl ⟨rfl, R8.kept ff (by simp; omega), ownLast (frThen B.g D8) ff (by omega)⟩
set_option maxRecDepth 100000 in
set_option maxHeartbeats 8000000 in
/-- A delete. -/
theorem doR_del (p n : Nat) (V W : Nat → Int) (v t wr : Int) (w : World) (hn : n < 64) (h : fit 2 n v t = true) (R : Rm w p V W) :
    Calls Try.prog 13 #[.pointer (some ⟨p, 0, none⟩), .agg #[.int .i64 2, .int .i64 n, .int .i64 v, .int .i64 t], .int .i64 wr] w fun e w' => e = .returned (ansv ⟨0, false, 0, -1, 0, []⟩ (.slice none 0 0)) ∧ Rm w' p (upd V n (-1)) (upd W n wr) ∧ Fr [p] w w' := by
  go_enter Try.func13, Try.ntmps13
  go_wp2_with fail
  refine (Ro.isOp_any 2 n v t _).mono ?_; rintro e w1 ⟨rfl, F1⟩
  rw [h]
  have B := Boxed.start F1
  have hlt := R.lt
  have R1 := R.kept B.g (by simp)
  have hsz : w.heap.size ≤ w.heap.size + 1 := by omega
  clear F1 R
  have HB := Lib.hid B.o
  obtain ⟨c0, c1, c2, c3⟩ := Pl.cells4 B.o
  go_wp2_with fail
  clear c0 c1 c2 c3
  refine wp_region_env (by kernel_rfl) [p] (fun w2 F2 => ?_)
  refine env_pass [true, true, true, true, true, true, true, true, true, true, false, true, true, false, false] 3 (n := 106) (listed' := #[true, true, true, true, true, true, true, true, true, true, false, true, true, false, false]) rfl (by kernel_rfl) (by kernel_rfl) (by kernel_rfl) rfl (by kernel_rfl) (fun _ _ d _ _ h => by cases d <;> exact h) (F2.mono (by simp)) ?_
  apply Exists.intro
  refine ⟨fun wf Ff => ?_, ?_⟩
  · obtain ⟨c0, c1, c2, c3⟩ := Pl.cells4 (Ff.heap HB.out (by simp; omega))
    have k0 := In.cell c0
    have k1 := In.cell c1
    have k2 := In.cell c2
    have k3 := In.cell c3
    clear c0 c1 c2 c3
    simp only [sel]
    repeat (go_big_quiet_step (fail))
    exact wpQuiet_nil rfl
  refine env_one 10 (by kernel_rfl) rfl rfl (fun w3 F3 => ?_)
  have R3 := R1.kept (F2.trans F3) (by simp)
  have D3 : Fr [p] w1 w3 := (F2.trans F3).mono (by simp)
  have q0 := R3.cellV hn
  have z0 := R3.frozen n
  clear F2 F3 R1
  go_wp2
  have R4 := R3.setV hn (-1)
  have E4 : Fr [p] w3 (w3.setCell ⟨p, n, none⟩ (.int .i64 (-1))) := Fr.setCell _ (List.mem_singleton.2 rfl)
  generalize (w3.setCell ⟨p, n, none⟩ (.int .i64 (-1))) = w4 at *
  have D4 := D3.trans E4
  clear q0 z0 R3 D3 E4
  refine nx_normal ⟨D4, ?_⟩
  refine env_one 13 (by kernel_rfl) rfl rfl (fun w5 F5 => ?_)
  have R5 := R4.kept F5 (by simp)
  have D5 := D4.then F5
  clear R4 D4 F5
  go_wp2
  refine nx_normal ⟨D5, ?_⟩
  refine env_one 14 (by kernel_rfl) rfl rfl (fun w6 F6 => ?_)
  have R6 := R5.kept F6 (by simp)
  have D6 := D5.then F6
  clear R5 D5 F6
  have q0 := R6.cellW hn
  have z0 := R6.frozen (64 + n)
  go_wp2
  have R7 := R6.setW hn wr
  have E7 : Fr [p] w6 (w6.setCell ⟨p, 64 + n, none⟩ (.int .i64 wr)) := Fr.setCell _ (List.mem_singleton.2 rfl)
  generalize (w6.setCell ⟨p, 64 + n, none⟩ (.int .i64 wr)) = w7 at *
  have D7 := D6.trans E7
  clear q0 z0 R6 D6 E7
  refine nx_normal ⟨D7, ?_⟩
  refine env_done (by kernel_rfl) (fun w8 F8 => ?_)
  have R8 := R7.kept F8 (by simp)
  have D8 := D7.then F8
  clear R7 D7 F8
  have hpb : w.heap.size + 1 ∉ [p] := by simp; omega
  have ha8 := D8.heap B.a hpb
  obtain ⟨a0, a1, a2, a3, a4, a5⟩ := cells6 ha8
  have z0 : ∀ j, w8.frozen? ⟨w.heap.size + 1, j, none⟩ = false := fun j => frozen_of_row _ _ _ _ _ ha8
  go_wp2
  have hc := cells6 (set6_heap ha8 (.int .i64 0) (.bool false) (.int .i64 0) (.int .i64 (-1)) (.int .i64 0) (.slice none 0 0))
  have ff := set6_fr w8 (w.heap.size + 1) (.int .i64 0) (.bool false) (.int .i64 0) (.int .i64 (-1)) (.int .i64 0) (.slice none 0 0)
  unfold set6 at hc ff
  generalize ((((((w8.setCell ⟨w.heap.size + 1, 0, none⟩ (.int .i64 0)).setCell ⟨w.heap.size + 1, 1, none⟩ (.bool false)).setCell ⟨w.heap.size + 1, 2, none⟩ (.int .i64 0)).setCell ⟨w.heap.size + 1, 3, none⟩ (.int .i64 (-1))).setCell ⟨w.heap.size + 1, 4, none⟩ (.int .i64 0)).setCell ⟨w.heap.size + 1, 5, none⟩ (.slice none 0 0)) = w9 at *
  obtain ⟨e0, e1, e2, e3, e4, e5⟩ := hc
  exact bodyPost_ret (v := ansv ⟨0, false, 0, -1, 0, []⟩ (.slice none 0 0)) (by simp [results, Try.results13, go_sem, ansv, e0, e1, e2, e3, e4, e5]) rfl ⟨rfl, R8.kept ff (by simp; omega), ownLast (frThen B.g D8) ff (by omega)⟩
end Go.Proofs.Ytjhgjpkiinkaeaa.Mp
