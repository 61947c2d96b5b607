/- A script, as a parameter by value, read: its rows of ops, its picks and draws. -/
import Derived.Test.YtedenkghacbdeaaDoorScr
import Derived.Lib.SmallJoins
namespace Go.Proofs.YtedenkghacbdeaaDoor.Op4
open Go.ChangeShapes Go.WideShapes Go.ChangeAt Go.RowKit Go.Deep Go.Proofs.YtedenkghacbdeaaDoor.Og
set_option linter.unusedVariables false
set_option linter.unusedSimpArgs false
section
variable {H : Type} {enc : TypeId × Value → H} {W : World}
theorem ints_of_trod {n : Nat} {v : Value} {x : DataW H × List MemPlace} (h : DataW.trod enc Tryd.prog W 0 (fun _ => true) true n 27 [v] = some x) : ∃ zs, Law.Ints W .i64 v zs := by
  rcases open_ints Tryd.underlying27 Tryd.underlying3 (by kernel_rfl) h with ⟨hcs, hx⟩ | ⟨a, len', cap', zs, hcs, _, hl, hm, hz, hx, hcell, hwz⟩
  · obtain rfl : v = .slice none 0 0 := by simpa using hcs
    exact ⟨[], none, 0, rfl, by simp [maxLen], by simp, .inl rfl⟩
  · obtain rfl : v = .slice (some a) len' cap' := by simpa using hcs
    simp only [if_true] at hz
    have hlen : (zs.take len').length = len' := by rw [List.length_take]; omega
    refine ⟨zs.take len', some a, cap', by rw [hlen], by omega, fun n hn => hwz n (List.mem_of_mem_take hn), ?_⟩
    by_cases h0 : len' = 0
    · exact .inl (by omega)
    · obtain ⟨b, off, spot⟩ := a
      have hspot : spot = none := by simpa [Addr.add] using World.cell?_spot (hcell 0 (by omega))
      subst hspot
      refine .inr ⟨b, off, rfl, World.block_lt_of_cell? W _ (hcell 0 (by omega)), fun i hi => ?_⟩
      rw [hlen] at hi
      rw [← add_plain, hcell i (by omega)]
      simp [List.getD_eq_getElem?_getD, hi]
theorem opsOf : Tryd.prog.underlying 23 = some (.struct (Tryd.prog.fieldsOf 23)) := by kernel_rfl
theorem opsOne : oneCellFields Tryd.prog (Tryd.prog.fieldsOf 23) = true := by kernel_rfl
theorem opsSize : (Tryd.prog.fieldsOf 23).size = 4 := by kernel_rfl
theorem opsCells : Tryd.prog.cellsOf 23 = (Tryd.prog.fieldsOf 23).size := by kernel_rfl
theorem opsInts : ((Tryd.prog.fieldsOf 23).all fun f => f.type == 3) = true := by kernel_rfl
theorem oprow_of_trod {n : Nat} {v : Value} {x : DataW H × List MemPlace} (h : DataW.trod enc Tryd.prog W 0 (fun _ => true) true n 45 [v] = some x) : ∃ os, OpRow W v os := by
  rcases Law.open_slice_fields Tryd.underlying45 opsOf opsOne opsCells h with ⟨hcs, hx⟩ | ⟨a, len, cap, m, D, Pl, hcs, _, hl, hm, hmm, hx, hi⟩
  · obtain rfl : v = .slice none 0 0 := by simpa using hcs
    exact ⟨[], nil_row W⟩
  · obtain rfl : v = .slice (some a) len cap := by simpa using hcs
    simp only [if_true] at hmm
    rw [opsSize] at hi
    have key : ∀ i, i < len → ∀ j, j < 4 → ∃ z : Int, W.cell? (a.add (i * 4 + j)) = some (.int .i64 z) ∧ (Lit.int .i64 z).wf = true := by
      intro i hil j hj
      obtain ⟨ys, n, _, _, _, hf'⟩ := hi i (by omega)
      have hjs : j < (Tryd.prog.fieldsOf 23).size := by rw [opsSize]; exact hj
      obtain ⟨u, y, h1, h2, h3⟩ := hf' j _ (Array.getElem?_eq_getElem hjs)
      rw [Law.fields_all opsInts j _ (Array.getElem?_eq_getElem hjs)] at h3
      obtain ⟨z, hz, -, hw⟩ := DataW.trod_int Tryd.underlying3 h3
      obtain rfl : u = .int .i64 z := by simpa using hz
      exact ⟨z, h1, hw⟩
    have at_ : ∀ i j, i < len → j < 4 → W.cell? (a.add (i * 4 + j)) = some (.int .i64 (intOf ((W.cell? (a.add (i * 4 + j))).getD undef))) := by
      intro i j hi hj
      obtain ⟨z, h1, -⟩ := key i hi j hj
      rw [h1]; rfl
    refine ⟨(List.range len).map fun i => (intOf ((W.cell? (a.add (i * 4 + 0))).getD undef), intOf ((W.cell? (a.add (i * 4 + 1))).getD undef), intOf ((W.cell? (a.add (i * 4 + 2))).getD undef), intOf ((W.cell? (a.add (i * 4 + 3))).getD undef)), some a, cap, by simp, by simpa using (by omega : len ≤ maxLen), ?_, ?_⟩
    · intro o ho
      obtain ⟨i, hi, rfl⟩ := List.mem_map.1 ho
      obtain ⟨z, h1, hw⟩ := key i (List.mem_range.1 hi) 0 (by decide)
      unfold wfO; simp only; rw [h1]; exact hw
    · by_cases h0 : len = 0
      · exact .inl (by simpa using h0)
      · obtain ⟨b, off, spot⟩ := a
        obtain ⟨z0, h00, -⟩ := key 0 (by omega) 0 (by decide)
        have hspot : spot = none := by simpa [Addr.add] using World.cell?_spot h00
        subst hspot
        refine .inr ⟨b, off, rfl, ?_, fun i hi => ?_⟩
        · have := World.block_lt_of_cell? W _ h00
          simpa [Addr.add] using this
        · have hi' : i < len := by simpa using hi
          have e : nthO ((List.range len).map fun i => (intOf ((W.cell? ((⟨b, off, none⟩ : Addr).add (i * 4 + 0))).getD undef), intOf ((W.cell? ((⟨b, off, none⟩ : Addr).add (i * 4 + 1))).getD undef), intOf ((W.cell? ((⟨b, off, none⟩ : Addr).add (i * 4 + 2))).getD undef), intOf ((W.cell? ((⟨b, off, none⟩ : Addr).add (i * 4 + 3))).getD undef))) i = (intOf ((W.cell? ((⟨b, off, none⟩ : Addr).add (i * 4 + 0))).getD undef), intOf ((W.cell? ((⟨b, off, none⟩ : Addr).add (i * 4 + 1))).getD undef), intOf ((W.cell? ((⟨b, off, none⟩ : Addr).add (i * 4 + 2))).getD undef), intOf ((W.cell? ((⟨b, off, none⟩ : Addr).add (i * 4 + 3))).getD undef)) := by
            unfold nthO; simp [List.getD_eq_getElem?_getD, hi']
          rw [e]
          have a0 := at_ i 0 hi' (by decide)
          have a1 := at_ i 1 hi' (by decide)
          have a2 := at_ i 2 hi' (by decide)
          have a3 := at_ i 3 hi' (by decide)
          refine ⟨?_, ?_, ?_, ?_⟩
          · rw [← a0, add_plain]; rfl
          · rw [← a1, add_plain, Nat.add_assoc]
          · rw [← a2, add_plain, Nat.add_assoc]
          · rw [← a3, add_plain, Nat.add_assoc]
theorem rowCells : Tryd.prog.cellsOf 45 = 1 := by kernel_rfl
theorem oprows_of_trod {n : Nat} {v : Value} {x : DataW H × List MemPlace} (h : DataW.trod enc Tryd.prog W 0 (fun _ => true) true n 26 [v] = some x) : ∃ rs, OpRows W v rs := by
  rcases open_slice Tryd.underlying26 h with ⟨hcs, hx⟩ | ⟨a, len, cap, m, n', D, Pl, hcs, _, hl, hm, hmm, hx, hi⟩
  · obtain rfl : v = .slice none 0 0 := by simpa using hcs
    exact ⟨[], nil_rows W⟩
  · obtain rfl : v = .slice (some a) len cap := by simpa using hcs
    simp only [if_true] at hmm
    rw [rowCells] at hi
    have key : ∀ i, ∃ u os, i < len → W.cell? (a.add i) = some u ∧ OpRow W u os := by
      intro i
      by_cases hil : i < len
      · obtain ⟨cs', hc, ht'⟩ := hi i (by omega)
        obtain ⟨_, hcl, hat⟩ := World.cells?_some hc
        obtain ⟨u, rfl⟩ : ∃ u, cs' = [u] := by
          match cs', hcl with
          | [u], _ => exact ⟨u, rfl⟩
        obtain ⟨os, hos⟩ := oprow_of_trod ht'
        have h1 := hat 0 (by decide)
        rw [Nat.mul_one] at h1
        exact ⟨u, os, fun _ => ⟨by simpa [Addr.add] using h1, hos⟩⟩
      · exact ⟨undef, [], fun h => absurd h hil⟩
    obtain ⟨u, h1⟩ := Classical.axiomOfChoice key
    obtain ⟨os, hu⟩ := Classical.axiomOfChoice h1
    refine ⟨(List.range len).map os, some a, cap, u, by simp, by simpa using (by omega : len ≤ maxLen), ?_, fun i hi' => ?_⟩
    · by_cases h0 : len = 0
      · exact .inl (by simpa using h0)
      · obtain ⟨b, off, spot⟩ := a
        have h00 := (hu 0 (by omega)).1
        have hspot : spot = none := by simpa [Addr.add] using World.cell?_spot h00
        subst hspot
        refine .inr ⟨b, off, rfl, ?_, fun i hi' => ?_⟩
        · have := World.block_lt_of_cell? W _ h00
          simpa [Addr.add] using this
        · have := (hu i (by simpa using hi')).1
          rwa [add_plain] at this
    · have hil : i < len := by simpa using hi'
      have e : nthR ((List.range len).map os) i = os i := by unfold nthR; simp [List.getD_eq_getElem?_getD, hil]
      rw [e]
      exact (hu i hil).2
set_option maxRecDepth 100000 in
/-- A script by value. -/
theorem open_script {r : Reach} {b0 : Nat} {v : Value} {d : DataW H} {p : List MemPlace} (hv : Value.okWide Tryd.prog W r b0 29 v) (h : DataW.Trod enc Tryd.prog W 0 (fun _ => true) true 29 v d p) :
    ∃ t c wd vv rs ps ds, Scr W v t c wd vv rs ps ds := by
  obtain ⟨cs, rfl, hsz⟩ := okWide_struct Tryd.underlying29 hv
  obtain ⟨fuel, hf⟩ := h
  obtain ⟨y0, y1, y2, y3, n, -, hl, h0, h1, h2, h3⟩ := Joins.trod_struct4 Tryd.underlying29 hf
  have e7 : Tryd.prog.cellsOf 29 = 7 := by kernel_rfl
  rw [e7] at hsz
  obtain ⟨l⟩ := cs
  match l, hsz with
  | [x0, x1, x2, x3, x4, x5, x6], _ =>
    have k4 : Tryd.prog.cellsOf 25 = 4 := by kernel_rfl
    have k1 : Tryd.prog.cellsOf 26 = 1 := by kernel_rfl
    have k2 : Tryd.prog.cellsOf 27 = 1 := by kernel_rfl
    have k3 : Tryd.prog.cellsOf 3 = 1 := by kernel_rfl
    simp [Value.cells, k4, k1, k2] at h0 h1 h2 h3
    obtain ⟨z0, z1, z2, z3, m, -, -, q0, q1, q2, q3⟩ := Joins.trod_struct4 Tryd.underlying25 h0
    simp [k3] at q0 q1 q2 q3
    obtain ⟨i0, j0, -, -⟩ := DataW.trod_int Tryd.underlying3 q0
    obtain ⟨i1, j1, -, -⟩ := DataW.trod_int Tryd.underlying3 q1
    obtain ⟨i2, j2, -, -⟩ := DataW.trod_int Tryd.underlying3 q2
    obtain ⟨i3, j3, -, -⟩ := DataW.trod_int Tryd.underlying3 q3
    simp at j0 j1 j2 j3
    subst j0 j1 j2 j3
    obtain ⟨rs, hr⟩ := oprows_of_trod h1
    obtain ⟨ps, hp⟩ := ints_of_trod h2
    obtain ⟨ds, hd⟩ := ints_of_trod h3
    exact ⟨i0, i1, i2, i3, rs, ps, ds, x4, x5, x6, rfl, hr, hp, hd⟩
end
end Go.Proofs.YtedenkghacbdeaaDoor.Op4
