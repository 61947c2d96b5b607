/- Package view: a chunk read, a chunk laid. -/
import Derived.Test.YtkdnhaglfbkhfaaView
namespace Go.Proofs.Ytkdnhaglfbkhfaa.Vw
open Go.RowKit Go.Proofs.Ytkdnhaglfbkhfaa.Ar Go.Proofs.Ytkdnhaglfbkhfaa.Mx
set_option linter.unusedVariables false
set_option linter.unusedSimpArgs false
/-- Do all words of a chunk lie there? -/
def thereB (n : Nat) (c at_ : Int) : Bool := decide (0 ≤ at_) && decide (at_ ≤ n - (7 + 3 * c))
def headOf (l : List Int) (a : Int) : Hd := ⟨a, peek l a, peek l (a + 1), peek l (a + 2), peek l (a + 3), peek l (a + 4), peek l (a + 5), peek l (a + 6)⟩
def cellOf (l : List Int) (a : Int) (i : Nat) : Ce := ⟨peek l (a + 7 + 3 * i), peek l (a + 7 + 3 * i + 1), peek l (a + 7 + 3 * i + 2)⟩
def cellsOf (l : List Int) (a : Int) (n : Nat) : List Ce := (List.range n).map (cellOf l a)
set_option maxHeartbeats 1600000 in
theorem there_any (t c wd v a : Int) (p q : Nat) (s : St) (w : World) (h1 : 1 ≤ c) (h2 : c ≤ 16) (h3 : c ≤ s.l.length) (h4 : s.l.length ≤ 20000) (hA : Ar w p q s) :
    Calls Try.prog 43 #[.agg #[.int .i64 t, .int .i64 c, .int .i64 wd, .int .i64 v], .pointer (some ⟨p, 0, none⟩), .int .i64 a] w fun e w' => e = .returned (.bool (thereB s.l.length c a)) ∧ Fr [] w w' := by
  have F0 := (Fr.refl [] w).alloc (.cells #[.int .i64 t, .int .i64 c, .int .i64 wd, .int .i64 v] 24)
  obtain ⟨c0, c1, c2, c3⟩ := Pl.cells4 (Go.heap_alloc_new w (.cells #[.int .i64 t, .int .i64 c, .int .i64 wd, .int .i64 v] 24))
  have A0 := hA.kept F0 (by simp) (by simp)
  have g1 : decide (c ≥ 0) = true := by simp; omega
  have g2 : decide (c ≤ (s.l.length : Int)) = true := by simp; omega
  have hr : thereB s.l.length c a = (decide (0 ≤ a) && decide (a ≤ (s.l.length : Int) - (7 + 3 * c))) := rfl
  have k0 := In.cell c0
  have k1 := In.cell c1
  have k2 := In.cell c2
  have k3 := In.cell c3
  clear c0 c1 c2 c3
  by_cases g3 : 0 ≤ a
  · have g3' : decide (a ≥ 0) = true := by simpa using g3
    rw [hr, show decide (0 ≤ a) = true from g3', Bool.true_and]
    clear hr
    go_enter Try.func43, Try.ntmps43
    go_wp2_with fail
    refine wp_region_in (by kernel_rfl) (by kernel_rfl) ?_
    repeat (go_big_quiet_step ((first | (go_at_call 49; exact Calls.in_same (len_any _ p q s (A0.kept (In.fr _) (by simp) (by simp)))) | (go_at_call 42; exact Calls.in_ (Pl.size_any t c wd v h1 h2 _)))))
    refine wpQuiet_nil ?_
    intro w2 F2
    clear k0 k1 k2 k3 g1 g2
    go_wp2
    go_ret
    exact ⟨rfl, F0.trans F2⟩
  · have g3' : decide (a ≥ 0) = false := by simpa using g3
    rw [hr, show decide (0 ≤ a) = false from g3', Bool.false_and]
    clear hr
    go_enter Try.func43, Try.ntmps43
    go_wp2_with fail
    refine wp_region_in (by kernel_rfl) (by kernel_rfl) ?_
    repeat (go_big_quiet_step ((first | (go_at_call 49; exact Calls.in_same (len_any _ p q s (A0.kept (In.fr _) (by simp) (by simp)))) | (go_at_call 42; exact Calls.in_ (Pl.size_any t c wd v h1 h2 _)))))
    refine wpQuiet_nil ?_
    intro w2 F2
    clear k0 k1 k2 k3 g1 g2
    go_wp2
    go_ret
    exact ⟨rfl, F0.trans F2⟩
theorem set3 {cur : Array Value} {i : Nat} (x y z : Value) (h : 3 * i + 3 ≤ cur.size) : (((cur.setIfInBounds (i * 3) x).setIfInBounds (i * 3 + 1) y).setIfInBounds (i * 3 + 2) z).toList.take (3 * (i + 1)) = cur.toList.take (3 * i) ++ [x, y, z] := by
  obtain ⟨l⟩ := cur
  simp only [Array.toList_setIfInBounds] at h ⊢
  simp only [List.size_toArray] at h
  apply List.ext_getElem?
  intro j
  simp only [List.getElem?_take, List.getElem?_append, List.getElem?_set, List.length_take, List.length_set]
  by_cases h1 : j < 3 * i
  · rw [if_pos (by omega), if_neg (by omega), if_neg (by omega), if_neg (by omega), if_pos (by omega), if_pos h1]
  · rw [if_neg (show ¬ j < min (3 * i) l.length by omega)]
    by_cases h2 : j < 3 * (i + 1)
    · rw [if_pos h2]
      have h3 : j = i * 3 ∨ j = i * 3 + 1 ∨ j = i * 3 + 2 := by omega
      have hm : min (3 * i) l.length = i * 3 := by omega
      rw [hm]
      rcases h3 with rfl | rfl | rfl
      · rw [if_neg (by omega), if_neg (by omega), if_pos rfl, if_pos (by omega)]; simp
      · rw [if_neg (by omega), if_pos rfl, if_pos (by omega), show i * 3 + 1 - i * 3 = 1 by omega]; rfl
      · rw [if_pos rfl, if_pos (by omega), show i * 3 + 2 - i * 3 = 2 by omega]; rfl
    · rw [if_neg h2, show min (3 * i) l.length = 3 * i by omega]
      have : ∃ k, j - 3 * i = k + 3 := ⟨j - 3 * i - 3, by omega⟩
      obtain ⟨k, hk⟩ := this
      rw [hk]; rfl
theorem cellsOf_flat (l : List Int) (a : Int) (n : Nat) : ((cellsOf l a n).flatMap fC).length = 3 * n := by rw [fC_lays.flat]; unfold cellsOf; simp; omega
theorem cellsOf_succ (l : List Int) (a : Int) (n : Nat) : (cellsOf l a (n + 1)).flatMap fC = (cellsOf l a n).flatMap fC ++ fC (cellOf l a n) := by
  unfold cellsOf; rw [List.range_succ, List.map_append, List.flatMap_append]; simp
/-- How far the cells are read. -/
def CsAt (w : World) (l : List Int) (a : Int) (b n : Nat) (x : Value) (wr : World) : Prop := ∃ i cur, i ≤ n ∧ x = .int .i64 (i : Nat) ∧ Ob wr b 90 cur ∧ cur.size = 3 * n ∧ cur.toList.take (3 * i) = (cellsOf l a i).flatMap fC ∧ Fr [] w wr
/-- Cells in a row of their own. -/
def CsMade (w : World) (cs : List Ce) (e : Ending) (w' : World) : Prop := ∃ b, e = .returned (.slice (some ⟨b, 0, none⟩) cs.length cs.length) ∧ w.heap.size ≤ b ∧ Ob w' b 90 (cs.flatMap fC).toArray ∧ Fr [] w w'
set_option maxHeartbeats 3200000 in
theorem cells_any (t wd v a : Int) (n p q : Nat) (s : St) (w : World) (h1 : 1 ≤ n) (h2 : n ≤ 16) (h3 : 0 ≤ a) (h4 : a ≤ 20000) (hA : Ar w p q s) :
    Calls Try.prog 44 #[.agg #[.int .i64 t, .int .i64 n, .int .i64 wd, .int .i64 v], .pointer (some ⟨p, 0, none⟩), .int .i64 a] w (CsMade w (cellsOf s.l a n)) := by
  have hlen : (cellsOf s.l a n).length = n := by unfold cellsOf; simp
  have F0 := (Fr.refl [] w).alloc (.cells #[.int .i64 t, .int .i64 n, .int .i64 wd, .int .i64 v] 24)
  obtain ⟨c0, c1, c2, c3⟩ := Pl.cells4 (Go.heap_alloc_new w (.cells #[.int .i64 t, .int .i64 n, .int .i64 wd, .int .i64 v] 24))
  obtain ⟨i0, h0, hz0, hz1, hz2⟩ := info_parts ceI
  go_enter Try.func44, Try.ntmps44
  go_wp2_with (at_make; refine wpList_make_full _ rfl _ _ 61 rfl 0 90 i0 (.agg #[.int .i64 0, .int .i64 0, .int .i64 0]) 3 Try.underlying61 h0 hz0 hz1 _ _ _ _ n rfl rfl rfl rfl (by rw [hz2]; omega) (by unfold maxLen; omega) (Nat.zero_le _) ?_; intro w1 hown hg)
  have G1 := F0.trans (Fr.grown hg)
  obtain ⟨-, hown⟩ := hown
  rcases hown with ⟨e1, -⟩ | ⟨g, cap, cur, e1, -, hh, hc1, hc2, hs, -⟩
  · simp at e1
  simp only [Value.slice.injEq, Option.some.injEq, Addr.mk.injEq] at e1
  obtain ⟨⟨rfl, -⟩, -, rfl⟩ := e1
  rw [sizeA] at hh
  clear c0 c1 c2 c3 hg F0
  have o1 : Ob w1 (w.heap.size + 1) 90 cur := hh
  clear hh
  have hlen' := Lib.hid hlen
  have hs' := Lib.hid hs
  clear hlen hs
  go_loopw [15] (CsAt w s.l a (w.heap.size + 1) n) (fun x _ => n - (intOf x).toNat)
  case atStart => exact ⟨0, cur, Nat.zero_le _, rfl, o1, by have := hs'.out; omega, by simp [cellsOf], G1⟩
  case round =>
    obtain ⟨i, cur, hi, rfl, o, hsz, htk, F⟩ := hrel
    by_cases hlt : i < n
    · have HT := Lib.hid (And.intro hsz htk)
      clear hsz htk hs' o1
      have A := hA.kept F (by simp) (by simp)
      have z := o.frozen
      go_wp2_with fail
      refine (Pl.state_any a i h3 (by omega) (by omega) (by omega) _).mono ?_; rintro e _ ⟨rfl, rfl⟩
      go_wp2_with fail
      refine (peek_any _ p q s _ A).mono ?_; rintro e _ ⟨rfl, rfl⟩
      go_wp2_with fail
      refine (peek_any _ p q s _ A).mono ?_; rintro e _ ⟨rfl, rfl⟩
      go_wp2_with fail
      refine (peek_any _ p q s _ A).mono ?_; rintro e _ ⟨rfl, rfl⟩
      have HC : cellOf s.l a i = ⟨peek s.l (a + 7 + 3 * i), peek s.l (a + 7 + 3 * i + 1), peek s.l (a + 7 + 3 * i + 2)⟩ := rfl
      generalize peek s.l (a + 7 + 3 * i) = x at *
      generalize peek s.l (a + 7 + 3 * i + 1) = y at *
      generalize peek s.l (a + 7 + 3 * i + 2) = u at *
      have HC' := Lib.hid HC
      clear HC
      have q0 : ∃ v0, wr.cell? ⟨w.heap.size + 1, i * 3, none⟩ = some v0 := ⟨cur[i * 3]'(by have := HT.out.1; omega), o.cell (Array.getElem?_eq_getElem _)⟩
      have q1 : ∃ v0, wr.cell? ⟨w.heap.size + 1, i * 3 + 1, none⟩ = some v0 := ⟨cur[i * 3 + 1]'(by have := HT.out.1; omega), o.cell (Array.getElem?_eq_getElem _)⟩
      have q2 : ∃ v0, wr.cell? ⟨w.heap.size + 1, i * 3 + 2, none⟩ = some v0 := ⟨cur[i * 3 + 2]'(by have := HT.out.1; omega), o.cell (Array.getElem?_eq_getElem _)⟩
      obtain ⟨v0, q0⟩ := q0
      obtain ⟨v1, q1⟩ := q1
      obtain ⟨v2, q2⟩ := q2
      go_wp2_with fail
      go_roundw
      case rel =>
        refine ⟨i + 1, _, by omega, by go_num, ((o.set (i := i * 3) (.int .i64 x)).set (i := i * 3 + 1) (.int .i64 y)).set (i := i * 3 + 2) (.int .i64 u), by have := HT.out.1; simpa using this, ?_, ?_⟩
        · rw [set3 _ _ _ (by have := HT.out.1; omega), HT.out.2, cellsOf_succ, HC'.out]; rfl
        · exact F.own (((Fr.setCell (b := w.heap.size + 1) _ (List.mem_singleton.2 rfl)).setCell' _ (List.mem_singleton.2 rfl)).setCell' _ (List.mem_singleton.2 rfl)) (by simp)
      case measure => simp [intOf]; omega
    · obtain rfl : i = n := by omega
      have HT := Lib.hid (And.intro hsz htk)
      clear hsz htk hs' o1
      go_wp2
      go_ret
      refine ⟨w.heap.size + 1, by rw [hlen'.out]; rfl, by omega, ?_, F⟩
      have e := HT.out.2
      rw [List.take_of_length_le (by have := HT.out.1; simp; omega)] at e
      rw [← e]; exact o
theorem sets9 (x0 x1 x2 x3 x4 x5 x6 x7 x8 y0 y1 y2 y3 y4 y5 y6 y7 y8 : Value) : ((((((((((#[x0, x1, x2, x3, x4, x5, x6, x7, x8] : Array Value).setIfInBounds 0 y0).setIfInBounds 1 y1).setIfInBounds 2 y2).setIfInBounds 3 y3).setIfInBounds 4 y4).setIfInBounds 5 y5).setIfInBounds 6 y6).setIfInBounds 7 y7).setIfInBounds 8 y8) = #[y0, y1, y2, y3, y4, y5, y6, y7, y8] := by kernel_rfl
/-- A chunk, as it is answered, its cells in a row of their own. -/
def ChMade (w : World) (h : Hd) (cs : List Ce) (e : Ending) (w' : World) : Prop := ∃ b, e = .returned (.tuple #[chV h (.slice (some ⟨b, 0, none⟩) cs.length cs.length), .nilIface]) ∧ w.heap.size ≤ b ∧ Ob w' b 90 (cs.flatMap fC).toArray ∧ Fr [] w w'
set_option maxHeartbeats 3200000 in
theorem chunk_yes (t wd v a : Int) (n p q : Nat) (s : St) (w : World) (h1 : 1 ≤ n) (h2 : n ≤ 16) (h3 : n ≤ s.l.length) (h4 : s.l.length ≤ 20000) (hA : Ar w p q s) (ht : thereB s.l.length n a = true) :
    Calls Try.prog 35 #[.agg #[.int .i64 t, .int .i64 n, .int .i64 wd, .int .i64 v], .pointer (some ⟨p, 0, none⟩), .int .i64 a] w (ChMade w (headOf s.l a) (cellsOf s.l a n)) := by
  have hlen : (cellsOf s.l a n).length = n := by unfold cellsOf; simp
  have ha : 0 ≤ a ∧ a ≤ (s.l.length : Int) - (7 + 3 * n) := by unfold thereB at ht; simpa using ht
  have F0 := ((Fr.refl [] w).alloc (.cells #[.int .i64 t, .int .i64 n, .int .i64 wd, .int .i64 v] 24))
  have o0 := Ob.new w 24 #[.int .i64 t, .int .i64 n, .int .i64 wd, .int .i64 v]
  go_enter Try.func35, Try.ntmps35
  have z0 : Value := .agg #[.int .i64 0, .int .i64 0, .int .i64 0, .int .i64 0, .int .i64 0, .int .i64 0, .int .i64 0, .int .i64 0, .slice none 0 0]
  have o1 := Ob.newAt (sizeA w (.cells #[.int .i64 t, .int .i64 n, .int .i64 wd, .int .i64 v] 24)) 63 #[.int .i64 0, .int .i64 0, .int .i64 0, .int .i64 0, .int .i64 0, .int .i64 0, .int .i64 0, .int .i64 0, .slice none 0 0]
  have F1 := F0.alloc (.cells #[.int .i64 0, .int .i64 0, .int .i64 0, .int .i64 0, .int .i64 0, .int .i64 0, .int .i64 0, .int .i64 0, .slice none 0 0] 63)
  have o2 := o0.alloc (.cells #[.int .i64 0, .int .i64 0, .int .i64 0, .int .i64 0, .int .i64 0, .int .i64 0, .int .i64 0, .int .i64 0, .slice none 0 0] 63)
  clear F0 o0 z0
  go_wp2_with fail
  generalize World.alloc (World.alloc w _) _ = w1 at *
  refine (there_any t n wd v a p q s _ (by omega) (by omega) (by omega) h4 (hA.kept F1 (by simp) (by simp))).mono ?_; rintro e w2 ⟨rfl, F2⟩
  rw [ht]
  clear ht
  have A2 := hA.kept (F1.trans F2) (by simp) (by simp)
  replace o1 := o1.up F2
  replace o2 := o2.up F2
  replace F1 := F1.trans F2
  have hpq := hA.lt
  clear F2 hA
  go_wp2_with fail
  have hne : w.heap.size ≠ w.heap.size + 1 := by omega
  refine wp_region_env (by kernel_rfl) [w.heap.size + 1] (fun w3 F3 => ?_)
  refine env_pass [true, true, true, true, true, true, true, true, true, true, true, true, true, true, true, true, true, true, true, true, true, true, true, true, true, true, true, true, true, true, true, true, false, false, false, false] 4 (n := 49) (listed' := #[true, true, true, true, true, true, true, true, true, true, true, true, true, true, true, true, true, true, true, true, true, true, true, true, true, true, true, true, true, true, true, true, false, false, false, false]) rfl (by kernel_rfl) (by kernel_rfl) (by kernel_rfl) rfl (by kernel_rfl) (fun _ _ d _ _ h => by cases d <;> exact h) (F3.mono (by simp)) ?_
  apply Exists.intro
  refine ⟨fun wf Ff => ?_, ?_⟩
  · have Af := A2.kept Ff (by simp; omega) (by simp; omega)
    have of := o2.kept Ff (by simp)
    have k0 := In.cell (of.cell (i := 0) rfl)
    have k1 := In.cell (of.cell (i := 1) rfl)
    have k2 := In.cell (of.cell (i := 2) rfl)
    have k3 := In.cell (of.cell (i := 3) rfl)
    clear of
    simp only [sel]
    repeat (go_big_quiet_step ((go_at_call 34; exact Calls.in_same (peek_any _ p q s _ (Af.kept (In.fr _) (by simp) (by simp))))))
    exact wpQuiet_nil rfl
  refine env_one 32 (by kernel_rfl) rfl rfl (fun w4 F4 => ?_)
  have E := F3.trans F4
  clear F3 F4
  have A4 := A2.kept E (by simp) (by simp)
  replace o1 := o1.up E
  have G := F1.trans E
  have hG := G.size
  clear o2 A2
  go_wp2_with fail
  have hlt4 := o1.lt
  refine (cells_any t wd v a n p q s _ h1 h2 ha.1 (by omega) A4).mono ?_; rintro e w5 ⟨b, rfl, hb, ob, F5⟩
  rw [hlen]
  go_wp2_with fail
  replace o1 := o1.up F5
  have G5 := G.trans F5
  have E5 := E.trans F5
  clear A4 F5 G E
  refine nx_normal ⟨E5.mono (by simp), ?_⟩
  refine env_one 33 (by kernel_rfl) rfl rfl (fun w6 F6 => ?_)
  replace o1 := o1.up F6
  replace ob := ob.up F6
  replace G5 := G5.trans F6
  replace E5 := E5.trans F6
  clear F6
  go_wp2_with fail
  refine nx_normal ⟨E5.mono (by simp), ?_⟩
  refine env_one 34 (by kernel_rfl) rfl rfl (fun w7 F7 => ?_)
  replace o1 := o1.up F7
  replace ob := ob.up F7
  replace G5 := G5.trans F7
  replace E5 := E5.trans F7
  clear F7
  have z := o1.frozen
  obtain ⟨q0, q1, q2, q3, q4, q5, q6, q7, q8⟩ := ch_cells (h := ⟨0, 0, 0, 0, 0, 0, 0, 0⟩) (lv := .slice none 0 0) o1
  have hsz1 : w.heap.size + 1 < w7.heap.size := o1.lt
  have hbne : b ≠ w.heap.size + 1 := by omega
  have o8 := (Ob.set (Ob.set (Ob.set (Ob.set (Ob.set (Ob.set (Ob.set (Ob.set (Ob.set o1 (i := 0) (.int .i64 a)) (i := 1) (.int .i64 (peek s.l a))) (i := 2) (.int .i64 (peek s.l (a + 1)))) (i := 3) (.int .i64 (peek s.l (a + 2)))) (i := 4) (.int .i64 (peek s.l (a + 3)))) (i := 5) (.int .i64 (peek s.l (a + 4)))) (i := 6) (.int .i64 (peek s.l (a + 5)))) (i := 7) (.int .i64 (peek s.l (a + 6)))) (i := 8) (.slice (some ⟨b, 0, none⟩) n n))
  have F8 : Fr [w.heap.size + 1] w7 (((((((((w7.setCell ⟨w.heap.size + 1, 0, none⟩ (.int .i64 a)).setCell ⟨w.heap.size + 1, 1, none⟩ (.int .i64 (peek s.l a))).setCell ⟨w.heap.size + 1, 2, none⟩ (.int .i64 (peek s.l (a + 1)))).setCell ⟨w.heap.size + 1, 3, none⟩ (.int .i64 (peek s.l (a + 2)))).setCell ⟨w.heap.size + 1, 4, none⟩ (.int .i64 (peek s.l (a + 3)))).setCell ⟨w.heap.size + 1, 5, none⟩ (.int .i64 (peek s.l (a + 4)))).setCell ⟨w.heap.size + 1, 6, none⟩ (.int .i64 (peek s.l (a + 5)))).setCell ⟨w.heap.size + 1, 7, none⟩ (.int .i64 (peek s.l (a + 6)))).setCell ⟨w.heap.size + 1, 8, none⟩ (.slice (some ⟨b, 0, none⟩) n n)) := (Fr.setCell' (Fr.setCell' (Fr.setCell' (Fr.setCell' (Fr.setCell' (Fr.setCell' (Fr.setCell' (Fr.setCell' (Fr.setCell' (Fr.refl [w.heap.size + 1] w7) (b := w.heap.size + 1) (i := 0) (.int .i64 a) (by simp)) (b := w.heap.size + 1) (i := 1) (.int .i64 (peek s.l a)) (by simp)) (b := w.heap.size + 1) (i := 2) (.int .i64 (peek s.l (a + 1))) (by simp)) (b := w.heap.size + 1) (i := 3) (.int .i64 (peek s.l (a + 2))) (by simp)) (b := w.heap.size + 1) (i := 4) (.int .i64 (peek s.l (a + 3))) (by simp)) (b := w.heap.size + 1) (i := 5) (.int .i64 (peek s.l (a + 4))) (by simp)) (b := w.heap.size + 1) (i := 6) (.int .i64 (peek s.l (a + 5))) (by simp)) (b := w.heap.size + 1) (i := 7) (.int .i64 (peek s.l (a + 6))) (by simp)) (b := w.heap.size + 1) (i := 8) (.slice (some ⟨b, 0, none⟩) n n) (by simp))
  go_wp2_with fail
  generalize hW8 : (((((((((w7.setCell ⟨w.heap.size + 1, 0, none⟩ (.int .i64 a)).setCell ⟨w.heap.size + 1, 1, none⟩ (.int .i64 (peek s.l a))).setCell ⟨w.heap.size + 1, 2, none⟩ (.int .i64 (peek s.l (a + 1)))).setCell ⟨w.heap.size + 1, 3, none⟩ (.int .i64 (peek s.l (a + 2)))).setCell ⟨w.heap.size + 1, 4, none⟩ (.int .i64 (peek s.l (a + 3)))).setCell ⟨w.heap.size + 1, 5, none⟩ (.int .i64 (peek s.l (a + 4)))).setCell ⟨w.heap.size + 1, 6, none⟩ (.int .i64 (peek s.l (a + 5)))).setCell ⟨w.heap.size + 1, 7, none⟩ (.int .i64 (peek s.l (a + 6)))).setCell ⟨w.heap.size + 1, 8, none⟩ (.slice (some ⟨b, 0, none⟩) n n)) = w8 at *
  rw [sets9] at o8
  replace o8 : Ob w8 (w.heap.size + 1) 63 (chC (headOf s.l a) (.slice (some ⟨b, 0, none⟩) n n)) := o8
  have ob8 := ob.kept F8 (by simpa using hbne)
  have E8 := (E5.mono (T := [w.heap.size + 1]) (by simp)).trans F8
  have G8 := G5.own F8 (by simp)
  clear hW8 q0 q1 q2 q3 q4 q5 q6 q7 q8 z F8 ob E5 G5 o1
  refine nx_normal ⟨E8, ?_⟩
  refine env_one 35 (by kernel_rfl) rfl rfl (fun w9 F9 => ?_)
  replace o8 := o8.up F9
  replace ob8 := ob8.up F9
  replace E8 := E8.then F9
  replace G8 := G8.trans F9
  clear F9
  go_wp2_with fail
  refine nx_normal ⟨E8, ?_⟩
  refine env_done (by kernel_rfl) (fun w10 F10 => ?_)
  replace o8 := o8.up F10
  replace ob8 := ob8.up F10
  replace G8 := G8.trans F10
  clear F10 E8
  go_wp2_with fail
  obtain ⟨q0, q1, q2, q3, q4, q5, q6, q7, q8⟩ := ch_cells o8
  refine bodyPost_ret (v := .tuple #[chV (headOf s.l a) (.slice (some ⟨b, 0, none⟩) n n), .nilIface]) ?_ rfl ?_
  · simp [results, Try.results35, go_sem, q0, q1, q2, q3, q4, q5, q6, q7, q8, chV]
  · exact ⟨b, by rw [hlen], by omega, ob8, G8⟩
end Go.Proofs.Ytkdnhaglfbkhfaa.Vw
