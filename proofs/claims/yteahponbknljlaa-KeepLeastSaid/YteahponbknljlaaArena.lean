/- Package arena: what each function answers, and what becomes of the arena. -/
import Derived.Test.YteahponbknljlaaFr
import Derived.WalkKit
import Derived.WalkLawsBesides
import Derived.Deep.QuietTactic
import Derived.BigQuiet
import Derived.Handy
import Derived.Lib.Hide
namespace Go.Proofs.Yteahponbknljlaa.Ar
open Go.RowKit
/-- An access, as it went. -/
structure Acc where
  kind : Int
  at_ : Int
  old : Int
  new : Int
  ok : Bool
/-- What an arena holds: its words, how many accesses there were, the last one. -/
structure St where
  l : List Int
  n : Int
  a : Acc
def inc (n : Int) : Int := wrap64 (n + 1)
def isAt (l : List Int) (i : Int) : Bool := decide (0 ≤ i) && decide (i < l.length)
def nth (l : List Int) (k : Nat) : Int := l.getD k 0
def peek (l : List Int) (i : Int) : Int := if isAt l i = true then nth l i.toNat else 0
def poke (l : List Int) (i v : Int) : List Int := if isAt l i = true then l.set i.toNat v else l
theorem isAt_in {l : List Int} {k : Nat} (h : k < l.length) : isAt l k = true := by simp [isAt]; omega
theorem isAt_cases (l : List Int) (i : Int) : (∃ k : Nat, i = k ∧ k < l.length ∧ isAt l i = true) ∨ ((i < 0 ∨ l.length ≤ i) ∧ isAt l i = false) := by
  by_cases h : 0 ≤ i ∧ i < l.length
  · obtain ⟨k, rfl⟩ := Int.eq_ofNat_of_zero_le h.1
    exact .inl ⟨k, rfl, by omega, isAt_in (by omega)⟩
  · refine .inr ⟨by omega, ?_⟩
    simp only [isAt, Bool.and_eq_false_iff, decide_eq_false_iff_not]
    omega
theorem peek_at {l : List Int} {k : Nat} (h : k < l.length) : peek l k = nth l k := by rw [peek, if_pos (isAt_in h)]; rfl
theorem peek_no {l : List Int} {i : Int} (h : isAt l i = false) : peek l i = 0 := by rw [peek, if_neg (by simp [h])]
theorem poke_at {l : List Int} {k : Nat} (v : Int) (h : k < l.length) : poke l k v = l.set k v := by rw [poke, if_pos (isAt_in h)]; rfl
theorem poke_no {l : List Int} {i : Int} (v : Int) (h : isAt l i = false) : poke l i v = l := by rw [poke, if_neg (by simp [h])]
theorem length_poke (l : List Int) (i v : Int) : (poke l i v).length = l.length := by unfold poke; split <;> simp
theorem nth_poke {l : List Int} {k : Nat} (v : Int) (h : k < l.length) (i : Nat) : nth (poke l k v) i = if i = k then v else nth l i := by
  rw [poke_at v h, nth, nth, List.getD_eq_getElem?_getD, List.getElem?_set]
  by_cases e : k = i
  · subst e; simp [h]
  · rw [if_neg e, if_neg (Ne.symm e), List.getD_eq_getElem?_getD]
theorem isAt_poke (l : List Int) (i v j : Int) : isAt (poke l i v) j = isAt l j := by simp [isAt, length_poke]
def St.note (s : St) (kind i was : Int) (ok : Bool) : St := ⟨s.l, inc s.n, ⟨kind, i, was, peek s.l i, ok⟩⟩
def St.poke (s : St) (i v : Int) : St := ⟨Ar.poke s.l i v, s.n, s.a⟩
def St.load (s : St) (i : Int) : St := s.note 1 i (peek s.l i) false
def St.store (s : St) (i v : Int) : St := (s.poke i v).note 2 i (peek s.l i) false
def St.can (s : St) (i old : Int) : Bool := isAt s.l i && (peek s.l i == old)
def St.swap (s : St) (i old v : Int) : St := if s.can i old = true then (s.poke i v).note 3 i (peek s.l i) true else s.note 3 i (peek s.l i) false
def St.add (s : St) (i v : Int) : St := (s.poke i (wrap64 (peek s.l i + v))).note 4 i (peek s.l i) false
def arHead (s : St) (q cap : Nat) : Array Value :=
  #[.int .i64 s.l.length, .slice (some ⟨q, 0, none⟩) ((s.l.length + 63) / 64) cap, .int .i64 s.n, .int .i64 s.a.kind, .int .i64 s.a.at_, .int .i64 s.a.old, .int .i64 s.a.new, .bool s.a.ok]
theorem one_set {c : Array Value} {i n : Nat} {v : Value} (h : ∀ u ∈ c.toList.take n, u.oneCell' = true) (hv : v.oneCell' = true) : ∀ u ∈ (c.setIfInBounds i v).toList.take n, u.oneCell' = true := by
  intro u hu
  rw [Array.toList_setIfInBounds, List.take_set] at hu
  rcases List.mem_or_eq_of_mem_set hu with h1 | rfl
  · exact h u h1
  · exact hv
theorem ret_int {k : IntKind} {a b : Int} {w : World} (h : a = b) : Ending.returned (.int k a) = .returned (.int k b) ∧ w = w := ⟨by rw [h], rfl⟩
def Acc.val (a : Acc) : Value := .agg #[.int .i64 a.kind, .int .i64 a.at_, .int .i64 a.old, .int .i64 a.new, .bool a.ok]
def St.fresh (n : Nat) : St := ⟨List.replicate n 0, 0, ⟨0, 0, 0, 0, false⟩⟩
def page0 : Value := .agg (Array.replicate 64 (.int .i64 0))
theorem page0_cells (n : Nat) : ∀ j, j < n → (madeCells page0.cells n).toList[j]? = some (.int .i64 0) := by
  intro j hj
  have h : j % 64 < 64 := Nat.mod_lt _ (by decide)
  simp [madeCells, page0, Value.cells, hj]
  rw [getElem!_pos _ _ (by simpa using h)]
  simp
theorem page_one (n : Nat) : ∀ u ∈ (madeCells page0.cells n).toList, u.oneCell' = true := by
  intro u hu
  obtain ⟨j, hj, rfl⟩ := List.getElem_of_mem hu
  have h := page0_cells n j (by simpa [madeCells] using hj)
  rw [List.getElem?_eq_getElem hj] at h
  rw [Option.some.inj h]; rfl
def wordsOf (n : Int) : Nat := (max 1 (min n 20000)).toNat
theorem own_lt {w1 : World} {b : Nat} {E : TypeId} {sz g n cap k : Nat} {xs : List Value} (h : w1.ownsRow b E sz (.slice (some ⟨g, 0, none⟩) n cap) k xs) : g < w1.heap.size := by
  rcases h.2 with ⟨h, _⟩ | ⟨g, _, _, hv, _, hh, _⟩
  · cases h
  · cases hv; exact (Array.getElem?_eq_some_iff.1 hh).1
theorem wordsOf_bd (i : Int) : 1 ≤ wordsOf i ∧ wordsOf i ≤ 20000 := by unfold wordsOf; omega
end Go.Proofs.Yteahponbknljlaa.Ar
