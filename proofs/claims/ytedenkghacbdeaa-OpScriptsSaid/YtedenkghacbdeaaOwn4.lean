/- Rows that a call made itself, read as rows of ops and numbers. -/
import Derived.Test.YtedenkghacbdeaaKnown4
import Derived.Test.YtedenkghacbdeaaRow
namespace Go.Proofs.Ytedenkghacbdeaa.Og
open Go.RowKit Go.Maps Go.Proofs.Ytedenkghacbdeaa.Ar
set_option linter.unusedVariables false
set_option linter.unusedSimpArgs false
theorem own_cell {w : World} {B : Nat} {E : TypeId} {sz n : Nat} {v : Value} {xs : List Value} (h : w.ownsRow B E sz v n xs) :
    ∃ a cap, v = .slice a n cap ∧ n ≤ maxLen ∧ (n = 0 ∨ ∃ g, a = some ⟨g, 0, none⟩ ∧ g < w.heap.size ∧ ∀ j x, xs[j]? = some x → w.cell? ⟨g, j, none⟩ = some x) := by
  obtain ⟨h1, h2⟩ := h
  rcases h2 with ⟨rfl, rfl⟩ | ⟨g, cap, cur, rfl, -, hh, hc1, hc2, hs, ht⟩
  · exact ⟨none, 0, rfl, by simp [maxLen], .inl rfl⟩
  · refine ⟨_, _, rfl, by omega, .inr ⟨g, rfl, (Array.getElem?_eq_some_iff.1 hh).1, fun j x hx => ?_⟩⟩
    rw [cell_of_row _ _ _ _ _ _ hh]
    have hj : j < n * sz := by rw [← h1]; exact (List.getElem?_eq_some_iff.1 hx).1
    rw [← ht, List.getElem?_take_of_lt hj] at hx
    simpa using hx
theorem own_ints {w : World} {B : Nat} {v : Value} {zs : List Int} {n : Nat} (hn : zs.length = n) (hw : ∀ z ∈ zs, (Lit.int .i64 z).wf = true) (h : w.ownsRow B 3 1 v n (zs.map (Value.int .i64))) : Law.Ints w .i64 v zs := by
  subst hn
  obtain ⟨a, cap, rfl, hl, hc⟩ := own_cell h
  refine ⟨a, cap, rfl, hl, hw, ?_⟩
  rcases hc with h0 | ⟨g, rfl, hg, hx⟩
  · exact .inl h0
  · refine .inr ⟨g, 0, rfl, hg, fun i hi => ?_⟩
    rw [Nat.zero_add]
    refine hx i _ ?_
    simp [hi, List.getD_eq_getElem?_getD]
def cellsO (o : O) : List Value := [.int .i64 o.1, .int .i64 o.2.1, .int .i64 o.2.2.1, .int .i64 o.2.2.2]
theorem flat_at {os : List O} {i j : Nat} (hi : i < os.length) (hj : j < 4) : (os.flatMap cellsO)[i * 4 + j]? = (cellsO (nthO os i))[j]? := by
  induction os generalizing i with
  | nil => simp at hi
  | cons o os ih =>
    rw [List.flatMap_cons]
    cases i with
    | zero =>
      rw [List.getElem?_append_left (by simp [cellsO]; omega)]
      simp [nthO]
    | succ i =>
      rw [List.getElem?_append_right (by simp [cellsO]; omega)]
      have := ih (i := i) (by simpa using hi)
      rw [show (i + 1) * 4 + j - (cellsO o).length = i * 4 + j by simp [cellsO]; omega, this]
      rfl
theorem own_ops {w : World} {B : Nat} {v : Value} {os : List O} {n : Nat} (hn : os.length = n) (hw : ∀ o ∈ os, wfO o) (h : w.ownsRow B 40 4 v n (os.flatMap cellsO)) : OpRow w v os := by
  subst hn
  obtain ⟨a, cap, rfl, hl, hc⟩ := own_cell h
  refine ⟨a, cap, rfl, hl, hw, ?_⟩
  rcases hc with h0 | ⟨g, rfl, hg, hx⟩
  · exact .inl h0
  · refine .inr ⟨g, 0, rfl, hg, fun i hi => ?_⟩
    rw [Nat.zero_add]
    refine ⟨hx (i * 4) _ ((flat_at (j := 0) hi (by decide)).trans rfl), hx _ _ ((flat_at (j := 1) hi (by decide)).trans rfl), hx _ _ ((flat_at (j := 2) hi (by decide)).trans rfl), hx _ _ ((flat_at (j := 3) hi (by decide)).trans rfl)⟩
theorem own_rows {w : World} {B : Nat} {v : Value} {rs : List (List O)} {xs : List Value} {n : Nat} (hn : rs.length = n) (h : w.ownsRow B 38 1 v n xs) (hr : ∀ i, i < rs.length → OpRow w (xs.getD i undef) (nthR rs i)) : OpRows w v rs := by
  subst hn
  have h1 := h.1
  obtain ⟨a, cap, rfl, hl, hc⟩ := own_cell h
  refine ⟨a, cap, fun i => xs.getD i undef, rfl, hl, ?_, hr⟩
  rcases hc with h0 | ⟨g, rfl, hg, hx⟩
  · exact .inl h0
  · refine .inr ⟨g, 0, rfl, hg, fun i hi => ?_⟩
    rw [Nat.zero_add]
    refine hx i _ ?_
    have : i < xs.length := by omega
    simp [this, List.getD_eq_getElem?_getD]
theorem intInfo4 : (Try.prog.info? 3).map (fun i => (i.zero, i.size, i.bytes)) = some (some (.int .i64 0), 1, 8) := by kernel_rfl
theorem rowInfo4 : (Try.prog.info? 38).map (fun i => (i.zero, i.size, i.bytes)) = some (some (.slice none 0 0), 1, 24) := by kernel_rfl
theorem opInfo4 : (Try.prog.info? 40).map (fun i => (i.zero, i.size, i.bytes)) = some (some (opv (0, 0, 0, 0)), 4, 32) := by kernel_rfl
theorem info_of {t : TypeId} {z : Value} {s b : Nat} (h : (Try.prog.info? t).map (fun i => (i.zero, i.size, i.bytes)) = some (some z, s, b)) : ∃ i, Try.prog.info? t = some i ∧ i.zero = some z ∧ i.size = s ∧ i.bytes = b := info_parts h
end Go.Proofs.Ytedenkghacbdeaa.Og
