/- Package arena: what each function answers, and what becomes of the arena. -/
import Derived.Test.YtfchbbhopfganaaFr
import Derived.WalkKit
import Derived.WalkLawsBesides
import Derived.Deep.QuietTactic
import Derived.BigQuiet
import Derived.Handy
import Derived.Lib.Hide
namespace Go.Proofs.Ytfchbbhopfganaa.Ar
open Go.RowKit
/-- An access, as it went. -/
structure Acc where
  kind : Int
  at_ : Int
  old : Int
  new : Int
  ok : Bool
/-- What an arena holds: its words, how many accesses there were, the last one. -/
structure St where
  l : List Int
  n : Int
  a : Acc
def inc (n : Int) : Int := wrap64 (n + 1)
def isAt (l : List Int) (i : Int) : Bool := decide (0 ≤ i) && decide (i < l.length)
def nth (l : List Int) (k : Nat) : Int := l.getD k 0
def peek (l : List Int) (i : Int) : Int := if isAt l i = true then nth l i.toNat else 0
def poke (l : List Int) (i v : Int) : List Int := if isAt l i = true then l.set i.toNat v else l
theorem isAt_in {l : List Int} {k : Nat} (h : k < l.length) : isAt l k = true := by simp [isAt]; omega
theorem isAt_cases (l : List Int) (i : Int) : (∃ k : Nat, i = k ∧ k < l.length ∧ isAt l i = true) ∨ ((i < 0 ∨ l.length ≤ i) ∧ isAt l i = false) := by
  by_cases h : 0 ≤ i ∧ i < l.length
  · obtain ⟨k, rfl⟩ := Int.eq_ofNat_of_zero_le h.1
    exact .inl ⟨k, rfl, by omega, isAt_in (by omega)⟩
  · refine .inr ⟨by omega, ?_⟩
    simp only [isAt, Bool.and_eq_false_iff, decide_eq_false_iff_not]
    omega
theorem peek_at {l : List Int} {k : Nat} (h : k < l.length) : peek l k = nth l k := by rw [peek, if_pos (isAt_in h)]; rfl
theorem peek_no {l : List Int} {i : Int} (h : isAt l i = false) : peek l i = 0 := by rw [peek, if_neg (by simp [h])]
theorem poke_at {l : List Int} {k : Nat} (v : Int) (h : k < l.length) : poke l k v = l.set k v := by rw [poke, if_pos (isAt_in h)]; rfl
theorem poke_no {l : List Int} {i : Int} (v : Int) (h : isAt l i = false) : poke l i v = l := by rw [poke, if_neg (by simp [h])]
theorem length_poke (l : List Int) (i v : Int) : (poke l i v).length = l.length := by unfold poke; split <;> simp
theorem nth_poke {l : List Int} {k : Nat} (v : Int) (h : k < l.length) (i : Nat) : nth (poke l k v) i = if i = k then v else nth l i := by
  rw [poke_at v h, nth, nth, List.getD_eq_getElem?_getD, List.getElem?_set]
  by_cases e : k = i
  · subst e; simp [h]
  · rw [if_neg e, if_neg (Ne.symm e), List.getD_eq_getElem?_getD]
theorem isAt_poke (l : List Int) (i v j : Int) : isAt (poke l i v) j = isAt l j := by simp [isAt, length_poke]
def St.note (s : St) (kind i was : Int) (ok : Bool) : St := ⟨s.l, inc s.n, ⟨kind, i, was, peek s.l i, ok⟩⟩
def St.poke (s : St) (i v : Int) : St := ⟨Ar.poke s.l i v, s.n, s.a⟩
def St.load (s : St) (i : Int) : St := s.note 1 i (peek s.l i) false
def St.store (s : St) (i v : Int) : St := (s.poke i v).note 2 i (peek s.l i) false
def St.can (s : St) (i old : Int) : Bool := isAt s.l i && (peek s.l i == old)
def St.swap (s : St) (i old v : Int) : St := if s.can i old = true then (s.poke i v).note 3 i (peek s.l i) true else s.note 3 i (peek s.l i) false
def St.add (s : St) (i v : Int) : St := (s.poke i (wrap64 (peek s.l i + v))).note 4 i (peek s.l i) false
def arHead (s : St) (q cap : Nat) : Array Value :=
  #[.int .i64 s.l.length, .slice (some ⟨q, 0, none⟩) ((s.l.length + 63) / 64) cap, .int .i64 s.n, .int .i64 s.a.kind, .int .i64 s.a.at_, .int .i64 s.a.old, .int .i64 s.a.new, .bool s.a.ok]
/-- At block p an arena lies, its words in block q. -/
structure Ar (w : World) (p q : Nat) (s : St) : Prop where
  ne : p ≠ q
  lo : 1 ≤ s.l.length
  hi : s.l.length ≤ 20000
  mem : ∃ cap c, w.heap[p]? = some (.cells (arHead s q cap) 53 (0, 0)) ∧ (s.l.length + 63) / 64 ≤ cap ∧ cap ≤ maxLen ∧
    w.heap[q]? = some (.cells c 48 (0, 0)) ∧ c.size = cap * 64 ∧ (∀ u ∈ c.toList.take ((s.l.length + 63) / 64 * 64), u.oneCell' = true) ∧ ∀ i, i < s.l.length → c[i]? = some (.int .i64 (nth s.l i))
theorem one_set {c : Array Value} {i n : Nat} {v : Value} (h : ∀ u ∈ c.toList.take n, u.oneCell' = true) (hv : v.oneCell' = true) : ∀ u ∈ (c.setIfInBounds i v).toList.take n, u.oneCell' = true := by
  intro u hu
  rw [Array.toList_setIfInBounds, List.take_set] at hu
  rcases List.mem_or_eq_of_mem_set hu with h1 | rfl
  · exact h u h1
  · exact hv
theorem Ar.lt {w : World} {p q : Nat} {s : St} (h : Ar w p q s) : p < w.heap.size ∧ q < w.heap.size := by
  obtain ⟨ne, lo, hi, cap, c, hp, hc1, hc2, hq, hs, hone, hc⟩ := h
  exact ⟨(Array.getElem?_eq_some_iff.1 hp).1, (Array.getElem?_eq_some_iff.1 hq).1⟩
/-- An arena whose two blocks are as they were is as it was. -/
theorem Ar.kept {w w' : World} {p q : Nat} {s : St} {S : List Nat} (h : Ar w p q s) (f : Fr S w w') (hp : p ∉ S) (hq : q ∉ S) : Ar w' p q s := by
  have hlt := h.lt
  obtain ⟨ne, lo, hi, cap, c, h1, h2, h3, h4, h5, h5', h6⟩ := h
  exact ⟨ne, lo, hi, cap, c, (f.block p hlt.1 hp).trans h1, h2, h3, (f.block q hlt.2 hq).trans h4, h5, h5', h6⟩
theorem ret_int {k : IntKind} {a b : Int} {w : World} (h : a = b) : Ending.returned (.int k a) = .returned (.int k b) ∧ w = w := ⟨by rw [h], rfl⟩
theorem has_in (w : World) (p q : Nat) (s : St) (k : Nat) (h : Ar w p q s) (hk : k < s.l.length) :
    Calls Try.prog 19 #[.pointer (some ⟨p, 0, none⟩), .int .i64 k] w fun e w' => e = .returned (.bool true) ∧ w = w' := by
  obtain ⟨ne, lo, hi, cap, c, hp, hc1, hc2, hq, hs, hone, hc⟩ := h
  have h0 : w.cell? ⟨p, 0, none⟩ = some (.int .i64 s.l.length) := by rw [cell_of_row w p 0 _ _ _ hp]; rfl
  clear hp hq hone hc
  go_enter Try.func19, Try.ntmps19
  go_wp2
  go_ret
  exact ⟨rfl, rfl⟩
theorem has_out (w : World) (p q : Nat) (s : St) (k : Int) (h : Ar w p q s) (hk : k < 0 ∨ s.l.length ≤ k) :
    Calls Try.prog 19 #[.pointer (some ⟨p, 0, none⟩), .int .i64 k] w fun e w' => e = .returned (.bool false) ∧ w = w' := by
  obtain ⟨ne, lo, hi, cap, c, hp, hc1, hc2, hq, hs, hone, hc⟩ := h
  have h0 : w.cell? ⟨p, 0, none⟩ = some (.int .i64 s.l.length) := by rw [cell_of_row w p 0 _ _ _ hp]; rfl
  clear hp hq hone hc
  by_cases hk0 : k < 0
  · clear hk
    go_enter Try.func19, Try.ntmps19
    go_wp2
    go_ret
    exact ⟨rfl, rfl⟩
  · have hf : decide (k < (s.l.length : Int)) = false := by simp; omega
    have hk1 : 0 ≤ k := by omega
    clear hk hk0
    go_enter Try.func19, Try.ntmps19
    go_wp2
    go_ret
    exact ⟨by simp, rfl⟩
theorem has_any (w : World) (p q : Nat) (s : St) (i : Int) (h : Ar w p q s) :
    Calls Try.prog 19 #[.pointer (some ⟨p, 0, none⟩), .int .i64 i] w fun e w' => e = .returned (.bool (isAt s.l i)) ∧ w = w' := by
  rcases isAt_cases s.l i with ⟨k, rfl, hk, e⟩ | ⟨hk, e⟩
  · rw [e]; exact has_in w p q s k h hk
  · rw [e]; exact has_out w p q s i h hk
theorem peek_any (w : World) (p q : Nat) (s : St) (i : Int) (h : Ar w p q s) :
    Calls Try.prog 13 #[.pointer (some ⟨p, 0, none⟩), .int .i64 i] w fun e w' => e = .returned (.int .i64 (peek s.l i)) ∧ w = w' := by
  have h' := h
  obtain ⟨ne, lo, hi, cap, c, hp, hc1, hc2, hq, hs, hone, hc⟩ := h
  have h0 : w.cell? ⟨p, 1, none⟩ = some (.slice (some ⟨q, 0, none⟩) ((s.l.length + 63) / 64) cap) := by rw [cell_of_row w p 1 _ _ _ hp]; rfl
  rcases isAt_cases s.l i with ⟨k, rfl, hk, e⟩ | ⟨hk, e⟩
  · have h1 : w.cell? ⟨q, k / 64 * 64 + k % 64, none⟩ = some (.int .i64 (nth s.l k)) := by rw [cell_of_row w q _ _ _ _ hq, show k / 64 * 64 + k % 64 = k by omega]; exact hc k hk
    rw [peek_at hk]
    clear hp hq hone hc e
    go_enter Try.func13, Try.ntmps13
    go_wp2_with (go_at_call 19; refine (has_in _ p q s k h' hk).mono ?_; rintro e w' ⟨rfl, rfl⟩)
    go_ret
    exact ⟨rfl, rfl⟩
  · rw [peek_no e]
    clear hp hq hone hc e
    go_enter Try.func13, Try.ntmps13
    go_wp2_with (go_at_call 19; refine (has_out _ p q s i h' hk).mono ?_; rintro e w' ⟨rfl, rfl⟩)
    go_ret
    exact ⟨rfl, rfl⟩
theorem poke_any (w : World) (p q : Nat) (s : St) (i v : Int) (h : Ar w p q s) :
    Calls Try.prog 7 #[.pointer (some ⟨p, 0, none⟩), .int .i64 i, .int .i64 v] w fun e w' => e = .returned (.tuple #[]) ∧ Ar w' p q (s.poke i v) ∧ Fr [q] w w' := by
  have h' := h
  obtain ⟨ne, lo, hi, cap, c, hp, hc1, hc2, hq, hs, hone, hc⟩ := h
  have h0 : w.cell? ⟨p, 1, none⟩ = some (.slice (some ⟨q, 0, none⟩) ((s.l.length + 63) / 64) cap) := by rw [cell_of_row w p 1 _ _ _ hp]; rfl
  rcases isAt_cases s.l i with ⟨k, rfl, hk, e⟩ | ⟨hk, e⟩
  · have h1 : w.cell? ⟨q, k / 64 * 64 + k % 64, none⟩ = some (.int .i64 (nth s.l k)) := by rw [cell_of_row w q _ _ _ _ hq, show k / 64 * 64 + k % 64 = k by omega]; exact hc k hk
    have h2 : w.frozen? ⟨q, k / 64 * 64 + k % 64, none⟩ = false := frozen_of_row _ _ _ _ _ hq
    have A1 : Ar (w.setCell ⟨q, k / 64 * 64 + k % 64, none⟩ (.int .i64 v)) p q (s.poke k v) := by
      refine ⟨ne, by simp [St.poke, length_poke]; exact lo, by simp [St.poke, length_poke]; exact hi, cap, _, ?_, by simpa [St.poke, length_poke] using hc1, hc2, heap_setCell_same _ _ _ _ _ _ hq, by simpa using hs, by simp only [St.poke, length_poke]; exact one_set hone rfl, ?_⟩
      · rw [heap_setCell_other _ _ _ _ ne]; simpa [arHead, St.poke, length_poke] using hp
      · intro j hj
        rw [show k / 64 * 64 + k % 64 = k by omega]
        simp only [St.poke, length_poke] at hj
        simp only [St.poke, poke_at v hk, Array.getElem?_setIfInBounds, hc j hj, nth, List.getD_eq_getElem?_getD, List.getElem?_set]
        split
        · rename_i hkj; subst hkj
          rw [if_pos (by rw [hs]; omega)]; rfl
        · rfl
    have F1 : Fr [q] w (w.setCell ⟨q, k / 64 * 64 + k % 64, none⟩ (.int .i64 v)) := Fr.setCell _ (by simp)
    clear hp hq hone hc e
    go_enter Try.func7, Try.ntmps7
    go_wp2_with (go_at_call 19; refine (has_in _ p q s k h' hk).mono ?_; rintro e w' ⟨rfl, rfl⟩)
    go_end0
    exact ⟨rfl, A1, F1⟩
  · have A1 : Ar w p q (s.poke i v) := by rw [show s.poke i v = s by simp [St.poke, poke_no v e]]; exact h'
    clear hp hq hone hc e
    go_enter Try.func7, Try.ntmps7
    go_wp2_with (go_at_call 19; refine (has_out _ p q s i h' hk).mono ?_; rintro e w' ⟨rfl, rfl⟩)
    go_end0
    exact ⟨rfl, A1, Fr.refl _ _⟩
theorem note_any (w : World) (p q : Nat) (s : St) (kind i was : Int) (ok : Bool) (h : Ar w p q s) :
    Calls Try.prog 39 #[.pointer (some ⟨p, 0, none⟩), .int .i64 kind, .int .i64 i, .int .i64 was, .bool ok] w fun e w' => e = .returned (.tuple #[]) ∧ Ar w' p q (s.note kind i was ok) ∧ Fr [p] w w' := by
  have h' := h
  obtain ⟨ne, lo, hi, cap, c, hp, hc1, hc2, hq, hs, hone, hc⟩ := h
  have h2 : w.cell? ⟨p, 2, none⟩ = some (.int .i64 s.n) := by rw [cell_of_row w p 2 _ _ _ hp]; rfl
  have h3 : w.cell? ⟨p, 3, none⟩ = some (.int .i64 s.a.kind) := by rw [cell_of_row w p 3 _ _ _ hp]; rfl
  have h4 : w.cell? ⟨p, 4, none⟩ = some (.int .i64 s.a.at_) := by rw [cell_of_row w p 4 _ _ _ hp]; rfl
  have h5 : w.cell? ⟨p, 5, none⟩ = some (.int .i64 s.a.old) := by rw [cell_of_row w p 5 _ _ _ hp]; rfl
  have h6 : w.cell? ⟨p, 6, none⟩ = some (.int .i64 s.a.new) := by rw [cell_of_row w p 6 _ _ _ hp]; rfl
  have h7 : w.cell? ⟨p, 7, none⟩ = some (.bool s.a.ok) := by rw [cell_of_row w p 7 _ _ _ hp]; rfl
  have hf : ∀ j, w.frozen? ⟨p, j, none⟩ = false := fun j => frozen_of_row _ _ _ _ _ hp
  have hf2 := hf 2
  have hf3 := hf 3
  have hf4 := hf 4
  have hf5 := hf 5
  have hf6 := hf 6
  have hf7 := hf 7
  have A1 : Ar (w.setCell ⟨p, 2, none⟩ (.int .i64 (wrap64 (s.n + 1)))) p q ⟨s.l, inc s.n, s.a⟩ := by
    refine ⟨ne, lo, hi, cap, c, heap_setCell_same _ _ _ _ _ _ hp, hc1, hc2, ?_, hs, hone, hc⟩
    rw [heap_setCell_other _ _ _ _ (Ne.symm ne)]; exact hq
  have A2 : Ar ((((((w.setCell ⟨p, 2, none⟩ (.int .i64 (wrap64 (s.n + 1)))).setCell ⟨p, 3, none⟩ (.int .i64 kind)).setCell ⟨p, 4, none⟩ (.int .i64 i)).setCell ⟨p, 5, none⟩ (.int .i64 was)).setCell ⟨p, 6, none⟩ (.int .i64 (peek s.l i))).setCell ⟨p, 7, none⟩ (.bool ok)) p q (s.note kind i was ok) := by
    refine ⟨ne, lo, hi, cap, c, heap_setCell_same _ _ _ _ _ _ (heap_setCell_same _ _ _ _ _ _ (heap_setCell_same _ _ _ _ _ _ (heap_setCell_same _ _ _ _ _ _ (heap_setCell_same _ _ _ _ _ _ (heap_setCell_same _ _ _ _ _ _ hp))))), hc1, hc2, ?_, hs, hone, hc⟩
    repeat rw [heap_setCell_other _ _ _ _ (Ne.symm ne)]
    exact hq
  have F2 : Fr [p] w ((((((w.setCell ⟨p, 2, none⟩ (.int .i64 (wrap64 (s.n + 1)))).setCell ⟨p, 3, none⟩ (.int .i64 kind)).setCell ⟨p, 4, none⟩ (.int .i64 i)).setCell ⟨p, 5, none⟩ (.int .i64 was)).setCell ⟨p, 6, none⟩ (.int .i64 (peek s.l i))).setCell ⟨p, 7, none⟩ (.bool ok)) :=
    (((((Fr.setCell _ (by simp)).setCell' _ (by simp)).setCell' _ (by simp)).setCell' _ (by simp)).setCell' _ (by simp)).setCell' _ (by simp)
  clear hf hp hq hone hc
  go_enter Try.func39, Try.ntmps39
  go_wp2_with fail
  go_wp2_with (go_at_call 13; refine (peek_any _ p q _ i A1).mono ?_; rintro e w' ⟨rfl, rfl⟩)
  go_end0
  exact ⟨rfl, A2, F2⟩
theorem load_any (w : World) (p q : Nat) (s : St) (i : Int) (h : Ar w p q s) :
    Calls Try.prog 32 #[.pointer (some ⟨p, 0, none⟩), .int .i64 i] w fun e w' => e = .returned (.int .i64 (peek s.l i)) ∧ Ar w' p q (s.load i) ∧ Fr [p, q] w w' := by
  go_enter Try.func32, Try.ntmps32
  go_wp2_with (go_at_call 13; refine (peek_any _ p q _ i h).mono ?_; rintro e w' ⟨rfl, rfl⟩)
  refine (note_any _ p q s 1 i (peek s.l i) false h).mono ?_; rintro e w' ⟨rfl, A1, F1⟩
  go_wp2
  go_ret
  exact ⟨rfl, A1, F1.mono (by simp)⟩
theorem swap_any (w : World) (p q : Nat) (s : St) (i old v : Int) (h : Ar w p q s) :
    Calls Try.prog 31 #[.pointer (some ⟨p, 0, none⟩), .int .i64 i, .int .i64 old, .int .i64 v] w fun e w' => e = .returned (.bool (s.can i old)) ∧ Ar w' p q (s.swap i old v) ∧ Fr [p, q] w w' := by
  cases hi : isAt s.l i
  · have hc : s.can i old = false := by simp [St.can, hi]
    rw [hc, show s.swap i old v = s.note 3 i (peek s.l i) false by rw [St.swap, if_neg (by simp [hc])]]
    go_enter Try.func31, Try.ntmps31
    go_wp2_with (first | (go_at_call 13; refine (peek_any _ p q _ i h).mono ?_; rintro e w' ⟨rfl, rfl⟩) | (go_at_call 19; refine (has_any _ p q _ i h).mono ?_; rintro e w' ⟨rfl, rfl⟩))
    refine (note_any _ p q _ 3 i (peek s.l i) false h).mono ?_; rintro e w2 ⟨rfl, A2, F2⟩
    go_wp2
    go_ret
    exact ⟨rfl, A2, F2.mono (by simp)⟩
  · cases ho : (peek s.l i == old)
    · have hc : s.can i old = false := by simp [St.can, hi, ho]
      rw [hc, show s.swap i old v = s.note 3 i (peek s.l i) false by rw [St.swap, if_neg (by simp [hc])]]
      go_enter Try.func31, Try.ntmps31
      go_wp2_with (first | (go_at_call 13; refine (peek_any _ p q _ i h).mono ?_; rintro e w' ⟨rfl, rfl⟩) | (go_at_call 19; refine (has_any _ p q _ i h).mono ?_; rintro e w' ⟨rfl, rfl⟩))
      refine (note_any _ p q _ 3 i (peek s.l i) false h).mono ?_; rintro e w2 ⟨rfl, A2, F2⟩
      go_wp2
      go_ret
      exact ⟨rfl, A2, F2.mono (by simp)⟩
    · have hc : s.can i old = true := by simp [St.can, hi, ho]
      rw [hc, show s.swap i old v = (s.poke i v).note 3 i (peek s.l i) true by rw [St.swap, if_pos hc]]
      go_enter Try.func31, Try.ntmps31
      go_wp2_with (first | (go_at_call 13; refine (peek_any _ p q _ i h).mono ?_; rintro e w' ⟨rfl, rfl⟩) | (go_at_call 19; refine (has_any _ p q _ i h).mono ?_; rintro e w' ⟨rfl, rfl⟩))
      refine (poke_any _ p q s i v h).mono ?_; rintro e w1 ⟨rfl, A1, F1⟩
      go_wp2_with fail
      refine (note_any _ p q _ 3 i (peek s.l i) true A1).mono ?_; rintro e w2 ⟨rfl, A2, F2⟩
      go_wp2
      go_ret
      exact ⟨rfl, A2, (F1.mono (by simp)).trans (F2.mono (by simp))⟩
theorem Ar.alloc {w : World} {p q : Nat} {s : St} (h : Ar w p q s) (o : Obj) : Ar (w.alloc o) p q s := h.kept ((Fr.refl [] w).alloc o) (by simp) (by simp)
theorem Ar.drew {w : World} {p q : Nat} {s : St} (h : Ar w p q s) : Ar w.drew p q s := h.kept ((Fr.refl [] w).drew) (by simp) (by simp)
def Acc.val (a : Acc) : Value := .agg #[.int .i64 a.kind, .int .i64 a.at_, .int .i64 a.old, .int .i64 a.new, .bool a.ok]
def St.fresh (n : Nat) : St := ⟨List.replicate n 0, 0, ⟨0, 0, 0, 0, false⟩⟩
/-- A pointer to an arena in new blocks. -/
def Made (w : World) (s : St) (e : Ending) (w' : World) : Prop := ∃ p q, e = .returned (.pointer (some ⟨p, 0, none⟩)) ∧ w.heap.size ≤ p ∧ w.heap.size ≤ q ∧ Ar w' p q s ∧ Fr [] w w'
def page0 : Value := .agg (Array.replicate 64 (.int .i64 0))
theorem pageInfo : (Try.prog.info? 48).map (fun i => (i.zero, i.size, i.bytes)) = some (some page0, 64, 512) := by kernel_rfl
theorem page0_cells (n : Nat) : ∀ j, j < n → (madeCells page0.cells n).toList[j]? = some (.int .i64 0) := by
  intro j hj
  have h : j % 64 < 64 := Nat.mod_lt _ (by decide)
  simp [madeCells, page0, Value.cells, hj]
  rw [getElem!_pos _ _ (by simpa using h)]
  simp
theorem page_one (n : Nat) : ∀ u ∈ (madeCells page0.cells n).toList, u.oneCell' = true := by
  intro u hu
  obtain ⟨j, hj, rfl⟩ := List.getElem_of_mem hu
  have h := page0_cells n j (by simpa [madeCells] using hj)
  rw [List.getElem?_eq_getElem hj] at h
  rw [Option.some.inj h]; rfl
theorem made_ar {w w1 : World} (n : Nat) (lo : 1 ≤ n) (hi : n ≤ 20000) (hown : w1.ownsRow 0 48 64 (.slice (some ⟨w.heap.size, 0, none⟩) ((n + 63) / 64) ((n + 63) / 64)) ((n + 63) / 64) (madeCells page0.cells ((n + 63) / 64 * 64)).toList) (hg : w.grownBy w1 none) (hne : w.heap.size < w1.heap.size) :
    Made w (St.fresh n) (.returned (.pointer (some ⟨w1.heap.size, 0, none⟩))) (w1.alloc (.cells #[.int .i64 n, .slice (some ⟨w.heap.size, 0, none⟩) ((n + 63) / 64) ((n + 63) / 64), .int .i64 0, .int .i64 0, .int .i64 0, .int .i64 0, .int .i64 0, .bool false] 53)) := by
  refine ⟨w1.heap.size, w.heap.size, rfl, by omega, Nat.le_refl _, ?_, (Fr.grown hg).alloc _⟩
  obtain ⟨h1, h2⟩ := hown
  rcases h2 with ⟨h2, _⟩ | ⟨g, cap, cur, hv, -, hh, hc1, hc2, hsz, htk⟩
  · cases h2
  · simp only [Value.slice.injEq, Option.some.injEq, Addr.mk.injEq] at hv
    obtain ⟨⟨rfl, -, -⟩, -, rfl⟩ := hv
    refine ⟨by omega, by simpa [St.fresh] using lo, by simpa [St.fresh] using hi, (n + 63) / 64, cur, ?_, by simp [St.fresh], hc2, ?_, hsz, ?_, ?_⟩
    · rw [Go.heap_alloc_new]; simp [arHead, St.fresh]
    · rw [heap_alloc_old _ _ hne]; exact hh
    · have e0 : cur.toList = (madeCells page0.cells ((n + 63) / 64 * 64)).toList := by rw [← htk, List.take_of_length_le (by simp [hsz])]
      intro u hu; exact page_one _ u (e0 ▸ List.mem_of_mem_take hu)
    · intro i hi'
      simp only [St.fresh, List.length_replicate] at hi'
      have e1 : cur.toList[i]? = (madeCells page0.cells ((n + 63) / 64 * 64)).toList[i]? := by
        rw [← htk, List.getElem?_take_of_lt (by omega)]
      rw [page0_cells _ _ (by omega)] at e1
      rw [Array.getElem?_toList] at e1
      rw [e1, nth, St.fresh, List.getD_eq_getElem?_getD, List.getElem?_replicate, if_pos hi']
      rfl
def wordsOf (n : Int) : Nat := (max 1 (min n 20000)).toNat
theorem own_lt {w1 : World} {b : Nat} {E : TypeId} {sz g n cap k : Nat} {xs : List Value} (h : w1.ownsRow b E sz (.slice (some ⟨g, 0, none⟩) n cap) k xs) : g < w1.heap.size := by
  rcases h.2 with ⟨h, _⟩ | ⟨g, _, _, hv, _, hh, _⟩
  · cases h
  · cases hv; exact (Array.getElem?_eq_some_iff.1 hh).1
theorem new_at (n : Nat) (i : Int) (lo : 1 ≤ n) (hi : n ≤ 20000) (hn : (i < 1 ∧ n = 1) ∨ (1 ≤ i ∧ i ≤ 20000 ∧ i = n) ∨ (20000 < i ∧ n = 20000)) (w : World) :
    Calls Try.prog 17 #[.int .i64 i] w (Made w (St.fresh n)) := by
  obtain ⟨i0, h0, hz0, hz1, hz2⟩ := info_parts pageInfo
  rcases hn with ⟨h1, rfl⟩ | ⟨h1, h2, rfl⟩ | ⟨h1, rfl⟩
  · go_enter Try.func17, Try.ntmps17
    go_wp2_with (at_make; refine wpList_make_full _ rfl _ _ 49 rfl 0 48 i0 page0 64 Try.underlying49 h0 hz0 hz1 _ _ _ _ 1 rfl rfl rfl rfl (by rw [hz2]; decide) (by decide) (Nat.zero_le _) ?_; intro w1 hown hg; have hM := made_ar 1 lo hi hown hg (own_lt hown); clear hown)
    go_ret
    exact hM
  · have e1 : ((n : Int) + 64 - 1) / 64 = (((n + 63) / 64 : Nat) : Int) := by omega
    go_enter Try.func17, Try.ntmps17
    go_wp2_with (at_make; refine wpList_make_full _ rfl _ _ 49 rfl 0 48 i0 page0 64 Try.underlying49 h0 hz0 hz1 _ _ _ _ ((n + 63) / 64) rfl rfl e1 e1 (by rw [hz2]; omega) (by unfold maxLen; omega) (Nat.zero_le _) ?_; intro w1 hown hg; have hM := made_ar n lo hi hown hg (own_lt hown); clear hown)
    go_ret
    exact hM
  · go_enter Try.func17, Try.ntmps17
    go_wp2_with (at_make; refine wpList_make_full _ rfl _ _ 49 rfl 0 48 i0 page0 64 Try.underlying49 h0 hz0 hz1 _ _ _ _ 313 rfl rfl rfl rfl (by rw [hz2]; decide) (by decide) (Nat.zero_le _) ?_; intro w1 hown hg; have hM := made_ar 20000 lo hi hown hg (own_lt hown); clear hown)
    go_ret
    exact hM
theorem wordsOf_bd (i : Int) : 1 ≤ wordsOf i ∧ wordsOf i ≤ 20000 := by unfold wordsOf; omega
theorem new_any (i : Int) (w : World) : Calls Try.prog 17 #[.int .i64 i] w (Made w (St.fresh (wordsOf i))) :=
  new_at _ i (wordsOf_bd i).1 (wordsOf_bd i).2 (by unfold wordsOf; omega) w
end Go.Proofs.Ytfchbbhopfganaa.Ar
