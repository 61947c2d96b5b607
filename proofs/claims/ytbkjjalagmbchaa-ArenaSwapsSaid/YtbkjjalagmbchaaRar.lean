/- Package armillaryref1's arena: what each function answers, and what becomes of it: the same as package arena's. -/
import Derived.Test.YtbkjjalagmbchaaArena
namespace Go.Proofs.Ytbkjjalagmbchaa.Ref
open Go.RowKit Go.Proofs.Ytbkjjalagmbchaa.Ar
def rarHead (s : St) (q cap : Nat) : Array Value :=
  #[.slice (some ⟨q, 0, none⟩) s.l.length cap, .int .i64 s.n, .int .i64 s.a.kind, .int .i64 s.a.at_, .int .i64 s.a.old, .int .i64 s.a.new, .bool s.a.ok]
/-- At block p an arena of the reference lies, its words in block q. -/
structure Rar (w : World) (p q : Nat) (s : St) : Prop where
  ne : p ≠ q
  lo : 1 ≤ s.l.length
  hi : s.l.length ≤ 20000
  mem : ∃ cap c, w.heap[p]? = some (.cells (rarHead s q cap) 39 (0, 0)) ∧ s.l.length ≤ cap ∧ cap ≤ maxLen ∧
    w.heap[q]? = some (.cells c 3 (0, 0)) ∧ c.size = cap ∧ ∀ i, i < s.l.length → c[i]? = some (.int .i64 (nth s.l i))
theorem Rar.lt {w : World} {p q : Nat} {s : St} (h : Rar w p q s) : p < w.heap.size ∧ q < w.heap.size := by
  obtain ⟨ne, lo, hi, cap, c, hp, hc1, hc2, hq, hs, hc⟩ := h
  exact ⟨(Array.getElem?_eq_some_iff.1 hp).1, (Array.getElem?_eq_some_iff.1 hq).1⟩
theorem Rar.kept {w w' : World} {p q : Nat} {s : St} {S : List Nat} (h : Rar w p q s) (f : Fr S w w') (hp : p ∉ S) (hq : q ∉ S) : Rar w' p q s := by
  have hlt := h.lt
  obtain ⟨ne, lo, hi, cap, c, h1, h2, h3, h4, h5, h6⟩ := h
  exact ⟨ne, lo, hi, cap, c, (f.block p hlt.1 hp).trans h1, h2, h3, (f.block q hlt.2 hq).trans h4, h5, h6⟩
theorem has_in (w : World) (p q : Nat) (s : St) (k : Nat) (h : Rar w p q s) (hk : k < s.l.length) :
    Calls Try.prog 32 #[.pointer (some ⟨p, 0, none⟩), .int .i64 k] w fun e w' => e = .returned (.bool true) ∧ w = w' := by
  obtain ⟨ne, lo, hi, cap, c, hp, hc1, hc2, hq, hs, hc⟩ := h
  have h0 : w.cell? ⟨p, 0, none⟩ = some (.slice (some ⟨q, 0, none⟩) s.l.length cap) := by rw [cell_of_row w p 0 _ _ _ hp]; rfl
  clear hp hq hc
  go_enter Try.func32, Try.ntmps32
  go_wp2
  go_ret
  exact ⟨rfl, rfl⟩
theorem has_out (w : World) (p q : Nat) (s : St) (k : Int) (h : Rar w p q s) (hk : k < 0 ∨ s.l.length ≤ k) :
    Calls Try.prog 32 #[.pointer (some ⟨p, 0, none⟩), .int .i64 k] w fun e w' => e = .returned (.bool false) ∧ w = w' := by
  obtain ⟨ne, lo, hi, cap, c, hp, hc1, hc2, hq, hs, hc⟩ := h
  have h0 : w.cell? ⟨p, 0, none⟩ = some (.slice (some ⟨q, 0, none⟩) s.l.length cap) := by rw [cell_of_row w p 0 _ _ _ hp]; rfl
  clear hp hq hc
  by_cases hk0 : k < 0
  · clear hk
    go_enter Try.func32, Try.ntmps32
    go_wp2
    go_ret
    exact ⟨rfl, rfl⟩
  · have hf : decide (k < (s.l.length : Int)) = false := by simp; omega
    have hk1 : 0 ≤ k := by omega
    clear hk hk0
    go_enter Try.func32, Try.ntmps32
    go_wp2
    go_ret
    exact ⟨by simp, rfl⟩
theorem has_any (w : World) (p q : Nat) (s : St) (i : Int) (h : Rar w p q s) :
    Calls Try.prog 32 #[.pointer (some ⟨p, 0, none⟩), .int .i64 i] w fun e w' => e = .returned (.bool (isAt s.l i)) ∧ w = w' := by
  rcases isAt_cases s.l i with ⟨k, rfl, hk, e⟩ | ⟨hk, e⟩
  · rw [e]; exact has_in w p q s k h hk
  · rw [e]; exact has_out w p q s i h hk
theorem peek_any (w : World) (p q : Nat) (s : St) (i : Int) (h : Rar w p q s) :
    Calls Try.prog 21 #[.pointer (some ⟨p, 0, none⟩), .int .i64 i] w fun e w' => e = .returned (.int .i64 (peek s.l i)) ∧ w = w' := by
  have h' := h
  obtain ⟨ne, lo, hi, cap, c, hp, hc1, hc2, hq, hs, hc⟩ := h
  have h0 : w.cell? ⟨p, 0, none⟩ = some (.slice (some ⟨q, 0, none⟩) s.l.length cap) := by rw [cell_of_row w p 0 _ _ _ hp]; rfl
  rcases isAt_cases s.l i with ⟨k, rfl, hk, e⟩ | ⟨hk, e⟩
  · have h1 : w.cell? ⟨q, k, none⟩ = some (.int .i64 (nth s.l k)) := by rw [cell_of_row w q _ _ _ _ hq]; exact hc k hk
    rw [peek_at hk]
    clear hp hq hc e
    go_enter Try.func21, Try.ntmps21
    go_wp2_with (go_at_call 32; refine (has_in _ p q s k h' hk).mono ?_; rintro e w' ⟨rfl, rfl⟩)
    go_ret
    exact ⟨rfl, rfl⟩
  · rw [peek_no e]
    clear hp hq hc e
    go_enter Try.func21, Try.ntmps21
    go_wp2_with (go_at_call 32; refine (has_out _ p q s i h' hk).mono ?_; rintro e w' ⟨rfl, rfl⟩)
    go_ret
    exact ⟨rfl, rfl⟩
theorem poke_any (w : World) (p q : Nat) (s : St) (i v : Int) (h : Rar w p q s) :
    Calls Try.prog 23 #[.pointer (some ⟨p, 0, none⟩), .int .i64 i, .int .i64 v] w fun e w' => e = .returned (.tuple #[]) ∧ Rar w' p q (s.poke i v) ∧ Fr [q] w w' := by
  have h' := h
  obtain ⟨ne, lo, hi, cap, c, hp, hc1, hc2, hq, hs, hc⟩ := h
  have h0 : w.cell? ⟨p, 0, none⟩ = some (.slice (some ⟨q, 0, none⟩) s.l.length cap) := by rw [cell_of_row w p 0 _ _ _ hp]; rfl
  rcases isAt_cases s.l i with ⟨k, rfl, hk, e⟩ | ⟨hk, e⟩
  · have h1 : w.cell? ⟨q, k, none⟩ = some (.int .i64 (nth s.l k)) := by rw [cell_of_row w q _ _ _ _ hq]; exact hc k hk
    have h2 : w.frozen? ⟨q, k, none⟩ = false := frozen_of_row _ _ _ _ _ hq
    have A1 : Rar (w.setCell ⟨q, k, none⟩ (.int .i64 v)) p q (s.poke k v) := by
      refine ⟨ne, by simp [St.poke, length_poke]; exact lo, by simp [St.poke, length_poke]; exact hi, cap, _, ?_, by simpa [St.poke, length_poke] using hc1, hc2, heap_setCell_same _ _ _ _ _ _ hq, by simpa using hs, ?_⟩
      · rw [heap_setCell_other _ _ _ _ ne]; simpa [rarHead, St.poke, length_poke] using hp
      · intro j hj
        simp only [St.poke, length_poke] at hj
        simp only [St.poke, poke_at v hk, Array.getElem?_setIfInBounds, hc j hj, nth, List.getD_eq_getElem?_getD, List.getElem?_set]
        split
        · rename_i hkj; subst hkj
          rw [if_pos (by rw [hs]; omega)]; rfl
        · rfl
    have F1 : Fr [q] w (w.setCell ⟨q, k, none⟩ (.int .i64 v)) := Fr.setCell _ (by simp)
    clear hp hq hc e
    go_enter Try.func23, Try.ntmps23
    go_wp2_with (go_at_call 32; refine (has_in _ p q s k h' hk).mono ?_; rintro e w' ⟨rfl, rfl⟩)
    go_end0
    exact ⟨rfl, A1, F1⟩
  · have A1 : Rar w p q (s.poke i v) := by rw [show s.poke i v = s by simp [St.poke, poke_no v e]]; exact h'
    clear hp hq hc e
    go_enter Try.func23, Try.ntmps23
    go_wp2_with (go_at_call 32; refine (has_out _ p q s i h' hk).mono ?_; rintro e w' ⟨rfl, rfl⟩)
    go_end0
    exact ⟨rfl, A1, Fr.refl _ _⟩
theorem note_any (w : World) (p q : Nat) (s : St) (kind i was : Int) (ok : Bool) (h : Rar w p q s) :
    Calls Try.prog 30 #[.pointer (some ⟨p, 0, none⟩), .int .i64 kind, .int .i64 i, .int .i64 was, .bool ok] w fun e w' => e = .returned (.tuple #[]) ∧ Rar w' p q (s.note kind i was ok) ∧ Fr [p] w w' := by
  have h' := h
  obtain ⟨ne, lo, hi, cap, c, hp, hc1, hc2, hq, hs, hc⟩ := h
  have h2 : w.cell? ⟨p, 1, none⟩ = some (.int .i64 s.n) := by rw [cell_of_row w p 1 _ _ _ hp]; rfl
  have h3 : w.cell? ⟨p, 2, none⟩ = some (.int .i64 s.a.kind) := by rw [cell_of_row w p 2 _ _ _ hp]; rfl
  have h4 : w.cell? ⟨p, 3, none⟩ = some (.int .i64 s.a.at_) := by rw [cell_of_row w p 3 _ _ _ hp]; rfl
  have h5 : w.cell? ⟨p, 4, none⟩ = some (.int .i64 s.a.old) := by rw [cell_of_row w p 4 _ _ _ hp]; rfl
  have h6 : w.cell? ⟨p, 5, none⟩ = some (.int .i64 s.a.new) := by rw [cell_of_row w p 5 _ _ _ hp]; rfl
  have h7 : w.cell? ⟨p, 6, none⟩ = some (.bool s.a.ok) := by rw [cell_of_row w p 6 _ _ _ hp]; rfl
  have hf : ∀ j, w.frozen? ⟨p, j, none⟩ = false := fun j => frozen_of_row _ _ _ _ _ hp
  have hf2 := hf 1
  have hf3 := hf 2
  have hf4 := hf 3
  have hf5 := hf 4
  have hf6 := hf 5
  have hf7 := hf 6
  have A1 : Rar (w.setCell ⟨p, 1, none⟩ (.int .i64 (wrap64 (s.n + 1)))) p q ⟨s.l, inc s.n, s.a⟩ := by
    refine ⟨ne, lo, hi, cap, c, heap_setCell_same _ _ _ _ _ _ hp, hc1, hc2, ?_, hs, hc⟩
    rw [heap_setCell_other _ _ _ _ (Ne.symm ne)]; exact hq
  have A2 : Rar ((((((w.setCell ⟨p, 1, none⟩ (.int .i64 (wrap64 (s.n + 1)))).setCell ⟨p, 2, none⟩ (.int .i64 kind)).setCell ⟨p, 3, none⟩ (.int .i64 i)).setCell ⟨p, 4, none⟩ (.int .i64 was)).setCell ⟨p, 5, none⟩ (.int .i64 (peek s.l i))).setCell ⟨p, 6, none⟩ (.bool ok)) p q (s.note kind i was ok) := by
    refine ⟨ne, lo, hi, cap, c, heap_setCell_same _ _ _ _ _ _ (heap_setCell_same _ _ _ _ _ _ (heap_setCell_same _ _ _ _ _ _ (heap_setCell_same _ _ _ _ _ _ (heap_setCell_same _ _ _ _ _ _ (heap_setCell_same _ _ _ _ _ _ hp))))), hc1, hc2, ?_, hs, hc⟩
    repeat rw [heap_setCell_other _ _ _ _ (Ne.symm ne)]
    exact hq
  have F2 : Fr [p] w ((((((w.setCell ⟨p, 1, none⟩ (.int .i64 (wrap64 (s.n + 1)))).setCell ⟨p, 2, none⟩ (.int .i64 kind)).setCell ⟨p, 3, none⟩ (.int .i64 i)).setCell ⟨p, 4, none⟩ (.int .i64 was)).setCell ⟨p, 5, none⟩ (.int .i64 (peek s.l i))).setCell ⟨p, 6, none⟩ (.bool ok)) :=
    (((((Fr.setCell _ (by simp)).setCell' _ (by simp)).setCell' _ (by simp)).setCell' _ (by simp)).setCell' _ (by simp)).setCell' _ (by simp)
  clear hf hp hq hc
  go_enter Try.func30, Try.ntmps30
  go_wp2_with fail
  go_wp2_with (go_at_call 21; refine (peek_any _ p q _ i A1).mono ?_; rintro e w' ⟨rfl, rfl⟩)
  go_end0
  exact ⟨rfl, A2, F2⟩
theorem load_any (w : World) (p q : Nat) (s : St) (i : Int) (h : Rar w p q s) :
    Calls Try.prog 13 #[.pointer (some ⟨p, 0, none⟩), .int .i64 i] w fun e w' => e = .returned (.int .i64 (peek s.l i)) ∧ Rar w' p q (s.load i) ∧ Fr [p, q] w w' := by
  go_enter Try.func13, Try.ntmps13
  go_wp2_with (go_at_call 21; refine (peek_any _ p q _ i h).mono ?_; rintro e w' ⟨rfl, rfl⟩)
  refine (note_any _ p q s 1 i (peek s.l i) false h).mono ?_; rintro e w' ⟨rfl, A1, F1⟩
  go_wp2
  go_ret
  exact ⟨rfl, A1, F1.mono (by simp)⟩
theorem store_any (w : World) (p q : Nat) (s : St) (i v : Int) (h : Rar w p q s) :
    Calls Try.prog 15 #[.pointer (some ⟨p, 0, none⟩), .int .i64 i, .int .i64 v] w fun e w' => e = .returned (.tuple #[]) ∧ Rar w' p q (s.store i v) ∧ Fr [p, q] w w' := by
  go_enter Try.func15, Try.ntmps15
  go_wp2_with (go_at_call 21; refine (peek_any _ p q _ i h).mono ?_; rintro e w' ⟨rfl, rfl⟩)
  refine (poke_any _ p q s i v h).mono ?_; rintro e w1 ⟨rfl, A1, F1⟩
  go_wp2_with fail
  refine (note_any _ p q _ 2 i (peek s.l i) false A1).mono ?_; rintro e w2 ⟨rfl, A2, F2⟩
  go_wp2
  go_end0
  exact ⟨rfl, A2, (F1.mono (by simp)).trans (F2.mono (by simp))⟩
theorem add_any (w : World) (p q : Nat) (s : St) (i v : Int) (h : Rar w p q s) :
    Calls Try.prog 19 #[.pointer (some ⟨p, 0, none⟩), .int .i64 i, .int .i64 v] w fun e w' => e = .returned (.int .i64 (peek s.l i)) ∧ Rar w' p q (s.add i v) ∧ Fr [p, q] w w' := by
  go_enter Try.func19, Try.ntmps19
  go_wp2_with (go_at_call 21; refine (peek_any _ p q _ i h).mono ?_; rintro e w' ⟨rfl, rfl⟩)
  refine (poke_any _ p q s i (wrap64 (peek s.l i + v)) h).mono ?_; rintro e w1 ⟨rfl, A1, F1⟩
  go_wp2_with fail
  refine (note_any _ p q _ 4 i (peek s.l i) false A1).mono ?_; rintro e w2 ⟨rfl, A2, F2⟩
  go_wp2
  go_ret
  exact ⟨rfl, A2, (F1.mono (by simp)).trans (F2.mono (by simp))⟩
theorem swap_any (w : World) (p q : Nat) (s : St) (i old v : Int) (h : Rar w p q s) :
    Calls Try.prog 17 #[.pointer (some ⟨p, 0, none⟩), .int .i64 i, .int .i64 old, .int .i64 v] w fun e w' => e = .returned (.bool (s.can i old)) ∧ Rar w' p q (s.swap i old v) ∧ Fr [p, q] w w' := by
  cases hi : isAt s.l i
  · have hc : s.can i old = false := by simp [St.can, hi]
    rw [hc, show s.swap i old v = s.note 3 i (peek s.l i) false by rw [St.swap, if_neg (by simp [hc])]]
    go_enter Try.func17, Try.ntmps17
    go_wp2_with (first | (go_at_call 21; refine (peek_any _ p q _ i h).mono ?_; rintro e w' ⟨rfl, rfl⟩) | (go_at_call 32; refine (has_any _ p q _ i h).mono ?_; rintro e w' ⟨rfl, rfl⟩))
    refine (note_any _ p q _ 3 i (peek s.l i) false h).mono ?_; rintro e w2 ⟨rfl, A2, F2⟩
    go_wp2
    go_ret
    exact ⟨rfl, A2, F2.mono (by simp)⟩
  · cases ho : (peek s.l i == old)
    · have hc : s.can i old = false := by simp [St.can, hi, ho]
      rw [hc, show s.swap i old v = s.note 3 i (peek s.l i) false by rw [St.swap, if_neg (by simp [hc])]]
      go_enter Try.func17, Try.ntmps17
      go_wp2_with (first | (go_at_call 21; refine (peek_any _ p q _ i h).mono ?_; rintro e w' ⟨rfl, rfl⟩) | (go_at_call 32; refine (has_any _ p q _ i h).mono ?_; rintro e w' ⟨rfl, rfl⟩))
      refine (note_any _ p q _ 3 i (peek s.l i) false h).mono ?_; rintro e w2 ⟨rfl, A2, F2⟩
      go_wp2
      go_ret
      exact ⟨rfl, A2, F2.mono (by simp)⟩
    · have hc : s.can i old = true := by simp [St.can, hi, ho]
      rw [hc, show s.swap i old v = (s.poke i v).note 3 i (peek s.l i) true by rw [St.swap, if_pos hc]]
      go_enter Try.func17, Try.ntmps17
      go_wp2_with (first | (go_at_call 21; refine (peek_any _ p q _ i h).mono ?_; rintro e w' ⟨rfl, rfl⟩) | (go_at_call 32; refine (has_any _ p q _ i h).mono ?_; rintro e w' ⟨rfl, rfl⟩))
      refine (poke_any _ p q s i v h).mono ?_; rintro e w1 ⟨rfl, A1, F1⟩
      go_wp2_with fail
      refine (note_any _ p q _ 3 i (peek s.l i) true A1).mono ?_; rintro e w2 ⟨rfl, A2, F2⟩
      go_wp2
      go_ret
      exact ⟨rfl, A2, (F1.mono (by simp)).trans (F2.mono (by simp))⟩
def RMade (w : World) (s : St) (e : Ending) (w' : World) : Prop := ∃ p q, e = .returned (.pointer (some ⟨p, 0, none⟩)) ∧ w.heap.size ≤ p ∧ w.heap.size ≤ q ∧ Rar w' p q s ∧ Fr [] w w'
theorem intInfo : (Try.prog.info? 3).map (fun i => (i.zero, i.size, i.bytes)) = some (some (.int .i64 0), 1, 8) := by kernel_rfl
theorem made_rar {w w1 : World} (n : Nat) (lo : 1 ≤ n) (hi : n ≤ 20000) (hown : w1.ownsRow 0 3 1 (.slice (some ⟨w.heap.size, 0, none⟩) n n) n (madeCells (Value.int .i64 0).cells (n * 1)).toList) (hg : w.grownBy w1 none) (hne : w.heap.size < w1.heap.size) :
    RMade w (St.fresh n) (.returned (.pointer (some ⟨w1.heap.size, 0, none⟩))) (w1.alloc (.cells #[.slice (some ⟨w.heap.size, 0, none⟩) n n, .int .i64 0, .int .i64 0, .int .i64 0, .int .i64 0, .int .i64 0, .bool false] 39)) := by
  refine ⟨w1.heap.size, w.heap.size, rfl, by omega, Nat.le_refl _, ?_, (Fr.grown hg).alloc _⟩
  obtain ⟨h1, h2⟩ := hown
  rcases h2 with ⟨h2, _⟩ | ⟨g, cap, cur, hv, -, hh, hc1, hc2, hsz, htk⟩
  · cases h2
  · simp only [Value.slice.injEq, Option.some.injEq, Addr.mk.injEq] at hv
    obtain ⟨⟨rfl, -, -⟩, -, rfl⟩ := hv
    refine ⟨by omega, by simpa [St.fresh] using lo, by simpa [St.fresh] using hi, n, cur, ?_, by simp [St.fresh], hc2, ?_, by simpa using hsz, ?_⟩
    · rw [Go.heap_alloc_new]; simp [rarHead, St.fresh]
    · rw [heap_alloc_old _ _ hne]; exact hh
    · intro i hi'
      simp only [St.fresh, List.length_replicate] at hi'
      have e1 : cur.toList[i]? = (madeCells (Value.int .i64 0).cells (n * 1)).toList[i]? := by
        rw [← htk, List.getElem?_take_of_lt (by omega)]
      rw [show (Value.int .i64 0).cells = #[.int .i64 0] from rfl, toList_madeCells_one, List.getElem?_replicate, if_pos (by omega)] at e1
      rw [Array.getElem?_toList] at e1
      rw [e1, nth, St.fresh, List.getD_eq_getElem?_getD, List.getElem?_replicate, if_pos hi']
      rfl
theorem held_any (n : Nat) (i : Int) (hn : (i < 1 ∧ n = 1) ∨ (1 ≤ i ∧ i ≤ 20000 ∧ i = n) ∨ (20000 < i ∧ n = 20000)) (w : World) :
    Calls Try.prog 28 #[.int .i64 i, .int .i64 1, .int .i64 20000] w fun e w' => e = .returned (.int .i64 n) ∧ w = w' := by
  rcases hn with ⟨h1, rfl⟩ | ⟨h1, h2, rfl⟩ | ⟨h1, rfl⟩
  all_goals
    go_enter Try.func28, Try.ntmps28
    go_wp2
    all_goals go_ret
    all_goals (first | exact ⟨rfl, rfl⟩ | exact ret_int (by omega))
theorem new_at (n : Nat) (i : Int) (lo : 1 ≤ n) (hi : n ≤ 20000) (hn : (i < 1 ∧ n = 1) ∨ (1 ≤ i ∧ i ≤ 20000 ∧ i = n) ∨ (20000 < i ∧ n = 20000)) (w : World) :
    Calls Try.prog 11 #[.int .i64 i] w (RMade w (St.fresh n)) := by
  obtain ⟨i0, h0, hz0, hz1, hz2⟩ := info_parts intInfo
  have HH := held_any n i hn w
  clear hn
  go_enter Try.func11, Try.ntmps11
  go_wp2_with (first | (go_at_call 28; refine HH.mono ?_; rintro e w' ⟨rfl, rfl⟩) | (at_make; refine wpList_make_full _ rfl _ _ 35 rfl 0 3 i0 (.int .i64 0) 1 Try.underlying35 h0 hz0 hz1 _ _ _ _ n rfl rfl rfl rfl (by rw [hz2]; omega) (by unfold maxLen; omega) (Nat.zero_le _) ?_; intro w1 hown hg; have hM := made_rar n lo hi hown hg (own_lt hown); clear hown))
  go_ret
  exact hM
theorem new_any (i : Int) (w : World) : Calls Try.prog 11 #[.int .i64 i] w (RMade w (St.fresh (wordsOf i))) :=
  new_at _ i (wordsOf_bd i).1 (wordsOf_bd i).2 (by unfold wordsOf; omega) w
end Go.Proofs.Ytbkjjalagmbchaa.Ref
