/- The examples that every statement of layer 2 opens with all hold: 'known' returns true. -/
import Derived.Test.YtbkjjalagmbchaaClone
namespace Go.Proofs.Ytbkjjalagmbchaa.Ar
open Go.RowKit
theorem cells5 {w : World} {b : Nat} {t : TypeId} {x0 x1 x2 x3 x4 : Value} (h : w.heap[b]? = some (.cells #[x0, x1, x2, x3, x4] t (0, 0))) :
    w.cell? ⟨b, 0, none⟩ = some x0 ∧ w.cell? ⟨b, 1, none⟩ = some x1 ∧ w.cell? ⟨b, 2, none⟩ = some x2 ∧ w.cell? ⟨b, 3, none⟩ = some x3 ∧ w.cell? ⟨b, 4, none⟩ = some x4 :=
  ⟨by rw [cell_of_row _ _ _ _ _ _ h]; rfl, by rw [cell_of_row _ _ _ _ _ _ h]; rfl, by rw [cell_of_row _ _ _ _ _ _ h]; rfl, by rw [cell_of_row _ _ _ _ _ _ h]; rfl, by rw [cell_of_row _ _ _ _ _ _ h]; rfl⟩
theorem load_of (w : World) (p q : Nat) (s : St) (i v : Int) (h : Ar w p q s) (hv : peek s.l i = v) :
    Calls Try.prog 12 #[.pointer (some ⟨p, 0, none⟩), .int .i64 i] w fun e w' => e = .returned (.int .i64 v) ∧ Ar w' p q (s.load i) ∧ Fr [p, q] w w' := hv ▸ load_any w p q s i h
theorem add_of (w : World) (p q : Nat) (s : St) (i n v : Int) (h : Ar w p q s) (hv : peek s.l i = v) :
    Calls Try.prog 18 #[.pointer (some ⟨p, 0, none⟩), .int .i64 i, .int .i64 n] w fun e w' => e = .returned (.int .i64 v) ∧ Ar w' p q (s.add i n) ∧ Fr [p, q] w w' := hv ▸ add_any w p q s i n h
theorem swap_of (w : World) (p q : Nat) (s : St) (i old n : Int) (b : Bool) (h : Ar w p q s) (hb : s.can i old = b) :
    Calls Try.prog 16 #[.pointer (some ⟨p, 0, none⟩), .int .i64 i, .int .i64 old, .int .i64 n] w fun e w' => e = .returned (.bool b) ∧ Ar w' p q (s.swap i old n) ∧ Fr [p, q] w w' := hb ▸ swap_any w p q s i old n h
theorem peek_of (w : World) (p q : Nat) (s : St) (i v : Int) (h : Ar w p q s) (hv : peek s.l i = v) :
    Calls Try.prog 20 #[.pointer (some ⟨p, 0, none⟩), .int .i64 i] w fun e w' => e = .returned (.int .i64 v) ∧ w = w' := hv ▸ peek_any w p q s i h
theorem accesses_of (w : World) (p q : Nat) (s : St) (v : Int) (h : Ar w p q s) (hv : s.n = v) :
    Calls Try.prog 24 #[.pointer (some ⟨p, 0, none⟩)] w fun e w' => e = .returned (.int .i64 v) ∧ w = w' := hv ▸ accesses_any w p q s h
theorem len_of (w : World) (p q : Nat) (s : St) (n : Nat) (h : Ar w p q s) (hv : s.l.length = n) :
    Calls Try.prog 26 #[.pointer (some ⟨p, 0, none⟩)] w fun e w' => e = .returned (.int .i64 n) ∧ w = w' := hv ▸ len_any w p q s h
theorem known_true (w : World) : Calls Try.prog 9 #[] w fun e w' => e = .returned (.bool true) ∧ Fr [] w w' := by
  go_enter Try.func9, Try.ntmps9
  go_wp2_with fail
  refine (new_any 10 _).mono ?_; rintro e w1 ⟨p, q, rfl, hp, hq, A, F⟩
  go_wp2_with fail
  refine (store_any _ p q _ 3 7 A).mono ?_; rintro e w2 ⟨rfl, A2, F2⟩
  have G2 := F.own2 F2 hp hq
  clear A F2 F
  go_wp2_with fail
  refine (last_of _ p q _ 2 3 0 7 false A2 rfl).mono ?_; rintro e w3 ⟨rfl, F3⟩
  have A3 := A2.kept F3 (by simp) (by simp)
  have G3 := G2.own F3 (by simp)
  clear A2 F3 G2
  go_wp2_with fail
  refine (swap_of _ p q _ 3 7 9 true (A3.alloc _) rfl).mono ?_; rintro e w4 ⟨rfl, A4, F4⟩
  have B4 := F4.heap (Go.heap_alloc_new w3 _) (by have := A3.lt; simp; omega)
  have G4 := (G3.alloc _).own2 F4 hp hq
  have L3 := A3.lt
  clear A3 F4 G3
  go_wp2_with fail
  refine (swap_of _ p q _ 3 7 8 false A4 rfl).mono ?_; rintro e w5 ⟨rfl, A5, F5⟩
  have B5 := F5.heap B4 (by simp; omega)
  have G5 := G4.own2 F5 hp hq
  clear A4 F5 G4 B4
  go_wp2_with fail
  refine (add_of _ p q _ 3 5 9 A5 rfl).mono ?_; rintro e w6 ⟨rfl, A6, F6⟩
  have B6 := F6.heap B5 (by simp; omega)
  have G6 := G5.own2 F6 hp hq
  clear A5 F6 G5 B5
  go_wp2_with fail
  refine (copy_any _ p q _ A6).mono ?_; rintro e w7 ⟨p', q', rfl, hp', hq', A7, F7⟩
  have L6 := A6.lt
  have B7 := F7.heap B6 (by simp)
  have A7' := A6.kept F7 (by simp) (by simp)
  have G7 := G6.own F7 (by simp)
  have S6 := G6.size
  have LB := (Array.getElem?_eq_some_iff.1 B6).1
  clear A6 F7 G6 B6
  go_wp2_with fail
  refine (poke_any _ p' q' _ 3 1 A7).mono ?_; rintro e w8 ⟨rfl, A8, F8⟩
  have B8 := F8.heap B7 (by simp; omega)
  have A8' := A7'.kept F8 (by simp; omega) (by simp; omega)
  have G8 := G7.own F8 (by simp; omega)
  clear A7 A7' F8 G7 B7
  obtain ⟨c0, c1, c2, c3, c4⟩ := cells5 B8
  clear B8
  go_wp2_with fail
  refine (load_of _ p q _ 3 14 A8' (by decide +kernel)).mono ?_; rintro e w9 ⟨rfl, A9, F9⟩
  have A9' := A8.kept F9 (by simp; omega) (by simp; omega)
  have G9 := G8.own2 F9 hp hq
  clear A8 A8' F9 G8 c0 c1 c2 c3 c4
  go_wp2_with fail
  refine (accesses_of _ p q _ 5 A9 (by decide +kernel)).mono ?_; rintro e w10 ⟨rfl, rfl⟩
  go_wp2_with fail
  refine (peek_of _ p' q' _ 3 1 A9' rfl).mono ?_; rintro e w10 ⟨rfl, rfl⟩
  go_wp2_with fail
  refine (accesses_of _ p' q' _ 4 A9' (by decide +kernel)).mono ?_; rintro e w10 ⟨rfl, rfl⟩
  go_wp2_with fail
  refine (load_of _ p q _ 10 0 A9 rfl).mono ?_; rintro e w11 ⟨rfl, A11, F11⟩
  have G11 := G9.own2 F11 hp hq
  clear A9 A9' F11 G9
  go_wp2_with fail
  refine (swap_of _ p q _ (-1) 0 1 false A11 rfl).mono ?_; rintro e w12 ⟨rfl, A12, F12⟩
  have G12 := G11.own2 F12 hp hq
  clear A11 F12 G11
  go_wp2_with fail
  refine (len_of _ p q _ 10 A12 rfl).mono ?_; rintro e w10 ⟨rfl, rfl⟩
  go_wp2
  go_ret
  exact ⟨rfl, G12⟩
end Go.Proofs.Ytbkjjalagmbchaa.Ar
