/- Items and ints that come in as parameters. -/
import Derived.Test.YteahponbknljlaaSame8
namespace Go.Proofs.Yteahponbknljlaa.Kp
open Go.ChangeShapes Go.WideShapes Go.ChangeAt Go.RowKit Go.Deep Go.Proofs.Yteahponbknljlaa.Ar Go.Proofs.Yteahponbknljlaa.Mx
set_option linter.unusedVariables false
set_option linter.unusedSimpArgs false
theorem open_ints8 {H : Type} {enc : TypeId × Value → H} {W : World} {v : Value} {d : DataW H} {p : List MemPlace} {r : Reach} {base : Nat}
    (hv : Value.okWide Try.prog W r base 23 v) (h : DataW.Trod enc Try.prog W 0 (fun _ => true) true 23 v d p) : ∃ zs, Sq fI W v zs ∧ ∀ z, z ∈ zs → (Lit.int .i64 z).wf = true := by
  obtain ⟨a0, len, cap, rfl⟩ := okWide_slice Try.underlying23 hv
  obtain ⟨fuel, hf⟩ := h
  rcases open_ints Try.underlying23 Try.underlying3 (by kernel_rfl) hf with ⟨hcs, hx⟩ | ⟨a, len', cap', zs, hcs, _, hl, hm, hz, hx, hcell, hwz⟩
  · simp [Value.cells] at hcs
    obtain ⟨rfl, rfl, rfl⟩ := hcs
    exact ⟨[], Sq.nil W, by simp⟩
  · simp [Value.cells] at hcs
    obtain ⟨rfl, rfl, rfl⟩ := hcs
    simp only [if_true] at hz
    have hlen : (zs.take len).length = len := by rw [List.length_take]; omega
    refine ⟨zs.take len, ⟨some a, cap, by rw [hlen], by omega, hm, ?_⟩, fun n hn => hwz n (List.mem_of_mem_take hn)⟩
    by_cases h0 : len = 0
    · exact .inl (by omega)
    · obtain ⟨b, off, spot⟩ := a
      have hspot : spot = none := by simpa [Addr.add] using World.cell?_spot (hcell 0 (by omega))
      subst hspot
      refine .inr ⟨b, off, rfl, World.block_lt_of_cell? W _ (hcell 0 (by omega)), fun j u hj => ?_⟩
      have hfl : (zs.take len).flatMap fI = (zs.take len).map fun z => Value.int .i64 z := by
        generalize zs.take len = ys
        induction ys with
        | nil => rfl
        | cons y ys ih => simp [List.flatMap_cons, fI, ih]
      rw [hfl, List.getElem?_map] at hj
      cases hy : (zs.take len)[j]? with
      | none => rw [hy] at hj; cases hj
      | some z =>
        rw [hy] at hj
        have hjl : j < len := by have := (List.getElem?_eq_some_iff.1 hy).1; omega
        rw [← addr_add, hcell j (by omega)]
        rw [List.getElem?_take_of_lt hjl] at hy
        simpa [List.getD_eq_getElem?_getD, hy] using hj
def itemOf (V : Nat → Nat → Value) (i : Nat) : It := ⟨RowKit.intOf (V i 0), RowKit.intOf (V i 1), RowKit.intOf (V i 2)⟩
theorem open_items8 {H : Type} {enc : TypeId × Value → H} {W : World} {v : Value} {d : DataW H} {p : List MemPlace} {r : Reach} {base : Nat}
    (hv : Value.okWide Try.prog W r base 22 v) (h : DataW.Trod enc Try.prog W 0 (fun _ => true) true 22 v d p) :
    ∃ xs, Sq fT W v xs ∧ ∀ x, x ∈ xs → Wf x.k x.v ∧ (Lit.int .i64 x.d).wf = true := by
  obtain ⟨len, V, hR, hV⟩ := Law.open_recsL Try.underlying22 Try.underlying26 (by kernel_rfl) (by kernel_rfl) (by decide) hv h
  have hI := Law.recs_int (k := .i64) hV (fun j f hh => by rw [Law.fields_all (t := 3) (by kernel_rfl) j f hh]; exact Try.underlying3)
  have hcap : ∃ a cap, v = .slice a len cap ∧ len ≤ cap ∧ cap ≤ maxLen := by
    obtain ⟨a0, len0, cap0, rfl⟩ := okWide_slice Try.underlying22 hv
    obtain ⟨a1, cap1, e, _⟩ := hR
    obtain ⟨rfl, rfl, rfl⟩ := Value.slice.inj e
    obtain ⟨fuel, hf⟩ := h
    rcases Law.open_slice_fields Try.underlying22 Try.underlying26 (by kernel_rfl) (by kernel_rfl) hf with ⟨hcs, hx⟩ | ⟨a, len', cap', m, D, Pl, hcs, _, hl, hm, hmm, hx, hi⟩
    · simp [Value.cells] at hcs
      obtain ⟨rfl, rfl, rfl⟩ := hcs
      exact ⟨none, 0, rfl, Nat.le_refl _, by simp [maxLen]⟩
    · simp [Value.cells] at hcs
      obtain ⟨rfl, rfl, rfl⟩ := hcs
      exact ⟨_, _, rfl, hl, hm⟩
  obtain ⟨a, cap, rfl, hl, hm⟩ := hcap
  obtain ⟨a1, cap1, e, h1, h2⟩ := hR
  obtain ⟨rfl, -, rfl⟩ := Value.slice.inj e
  have each : ∀ i, i < len → (V i 0 = .int .i64 (itemOf V i).k ∧ V i 1 = .int .i64 (itemOf V i).v ∧ V i 2 = .int .i64 (itemOf V i).d) ∧ Wf (itemOf V i).k (itemOf V i).v ∧ (Lit.int .i64 (itemOf V i).d).wf = true := by
    intro i hi
    obtain ⟨x0, e0, f0⟩ := hI i hi 0 (by decide)
    obtain ⟨x1, e1, f1⟩ := hI i hi 1 (by decide)
    obtain ⟨x2, e2, f2⟩ := hI i hi 2 (by decide)
    have k0 : (itemOf V i).k = x0 := by unfold itemOf; rw [e0]; rfl
    have k1 : (itemOf V i).v = x1 := by unfold itemOf; rw [e1]; rfl
    have k2 : (itemOf V i).d = x2 := by unfold itemOf; rw [e2]; rfl
    rw [k0, k1, k2]
    exact ⟨⟨e0, e1, e2⟩, ⟨f0, f1⟩, f2⟩
  have hlen : ((List.range len).map (itemOf V)).length = len := by simp
  refine ⟨(List.range len).map (itemOf V), ⟨a, cap, by rw [hlen], by rw [hlen]; exact hl, hm, ?_⟩, fun x hx => ?_⟩
  · rcases h2 with h2 | ⟨b, off, rfl, hb, hc⟩
    · exact .inl (by rw [hlen]; exact h2)
    · refine .inr ⟨b, off, rfl, hb, fun j u hj => ?_⟩
      have hjl : j < len * 3 := by
        have := (List.getElem?_eq_some_iff.1 hj).1
        rw [fT_lays.flat, hlen] at this; exact this
      have hx : ((List.range len).map (itemOf V))[j / 3]? = some (itemOf V (j / 3)) := by
        rw [List.getElem?_map, List.getElem?_range (by omega)]; rfl
      have h3 := get_flat _ (j / 3) (j % 3) _ hx (Nat.mod_lt _ (by omega))
      rw [show j / 3 * 3 + j % 3 = j by omega, hj] at h3
      have h4 : W.cell? ⟨b, off + (j / 3 * 3 + j % 3), none⟩ = some (V (j / 3) (j % 3)) := hc (j / 3) (by omega) (j % 3) (Nat.mod_lt _ (by omega))
      rw [show j / 3 * 3 + j % 3 = j by omega] at h4
      rw [h4]
      obtain ⟨⟨e0, e1, e2⟩, -⟩ := each (j / 3) (by omega)
      rcases (show j % 3 = 0 ∨ j % 3 = 1 ∨ j % 3 = 2 by omega) with hm3 | hm3 | hm3 <;> rw [hm3] at h3 ⊢ <;> simp [fT] at h3
      · rw [e0, h3]
      · rw [e1, h3]
      · rw [e2, h3]
  · obtain ⟨i, hi, rfl⟩ := List.mem_map.1 hx
    exact (each i (List.mem_range.1 hi)).2
end Go.Proofs.Yteahponbknljlaa.Kp
