/- A chunk, as a parameter by value, read: its header, its cells. -/
import Derived.Test.YtkdnppehlnmlgaaView
import Derived.Test.YtkdnppehlnmlgaaFrame
import Derived.Lib.SmallJoins
namespace Go.Proofs.Ytkdnppehlnmlgaa.Vw
open Go.ChangeShapes Go.WideShapes Go.ChangeAt Go.RowKit Go.Deep Go.Proofs.Ytkdnppehlnmlgaa.Mx
set_option linter.unusedVariables false
set_option linter.unusedSimpArgs false
section
variable {H : Type} {enc : TypeId × Value → H} {W : World}
theorem cesOf : Try.prog.underlying 29 = some (.struct (Try.prog.fieldsOf 29)) := by kernel_rfl
theorem cesOne : oneCellFields Try.prog (Try.prog.fieldsOf 29) = true := by kernel_rfl
theorem cesSize : (Try.prog.fieldsOf 29).size = 3 := by kernel_rfl
theorem cesCells : Try.prog.cellsOf 29 = (Try.prog.fieldsOf 29).size := by kernel_rfl
theorem cesInts : ((Try.prog.fieldsOf 29).all fun f => f.type == 3) = true := by kernel_rfl
theorem chF : Try.prog.underlying 26 = some (.struct (Try.prog.fieldsOf 26)) := by kernel_rfl
theorem chOne : oneCellFields Try.prog (Try.prog.fieldsOf 26) = true := by kernel_rfl
theorem chSize : (Try.prog.fieldsOf 26).size = 9 := by kernel_rfl
theorem chCells : Try.prog.cellsOf 26 = 9 := by kernel_rfl
theorem chInts : ((List.range 8).all fun i => ((Try.prog.fieldsOf 26)[i]?).any fun f => f.type == 3) = true := by kernel_rfl
theorem chLast : (((Try.prog.fieldsOf 26)[8]?).any fun f => f.type == 24) = true := by kernel_rfl
theorem flat3 (f : Nat → Ce) (len : Nat) : (((List.range len).map f).flatMap fC).length = len * 3 := by rw [fC_lays.flat]; simp
theorem flat3_get (f : Nat → Ce) {len j : Nat} {u : Value} (h : (((List.range len).map f).flatMap fC)[j]? = some u) : j / 3 < len ∧ (fC (f (j / 3)))[j % 3]? = some u := by
  have hj := (List.getElem?_eq_some_iff.1 h).1
  rw [flat3] at hj
  have hi : j / 3 < len := by omega
  refine ⟨hi, ?_⟩
  have e := fC_lays.at (xs := (List.range len).map f) (i := j / 3) (j := j % 3) (x := f (j / 3)) (by simp [hi]) (by omega)
  rw [show j / 3 * 3 + j % 3 = j by omega] at e
  rw [← e]; exact h
theorem cells_of_trod {n : Nat} {v : Value} {x : DataW H × List MemPlace} (h : DataW.trod enc Try.prog W 0 (fun _ => true) true n 24 [v] = some x) : ∃ cs, Sq fC W v cs := by
  rcases Law.open_slice_fields Try.underlying24 cesOf cesOne cesCells h with ⟨hcs, hx⟩ | ⟨a, len, cap, m, D, Pl, hcs, _, hl, hm, hmm, hx, hi⟩
  · obtain rfl : v = .slice none 0 0 := by simpa using hcs
    exact ⟨[], Sq.nil W⟩
  · obtain rfl : v = .slice (some a) len cap := by simpa using hcs
    simp only [if_true] at hmm
    rw [cesSize] at hi
    have key : ∀ i, i < len → ∀ j, j < 3 → ∃ z : Int, W.cell? (a.add (i * 3 + j)) = some (.int .i64 z) := by
      intro i hil j hj
      obtain ⟨ys, n, _, _, _, hf'⟩ := hi i (by omega)
      have hjs : j < (Try.prog.fieldsOf 29).size := by rw [cesSize]; exact hj
      obtain ⟨u, y, h1, h2, h3⟩ := hf' j _ (Array.getElem?_eq_getElem hjs)
      rw [Law.fields_all cesInts j _ (Array.getElem?_eq_getElem hjs)] at h3
      obtain ⟨z, hz, -, hw⟩ := DataW.trod_int Try.underlying3 h3
      obtain rfl : u = .int .i64 z := by simpa using hz
      exact ⟨z, h1⟩
    by_cases h0 : len = 0
    · subst h0; exact ⟨[], some a, cap, rfl, Nat.zero_le _, hm, .inl rfl⟩
    obtain ⟨b, off, spot⟩ := a
    obtain ⟨z0, h00⟩ := key 0 (by omega) 0 (by decide)
    have hspot : spot = none := by simpa [Addr.add] using World.cell?_spot h00
    subst hspot
    have hb : b < W.heap.size := by
      have := World.block_lt_of_cell? W _ h00
      simpa [Addr.add] using this
    have at_ : ∀ i j, i < len → j < 3 → W.cell? ⟨b, off + (i * 3 + j), none⟩ = some (.int .i64 (intOf ((W.cell? ⟨b, off + (i * 3 + j), none⟩).getD undef))) := by
      intro i j hi hj
      obtain ⟨z, h1⟩ := key i hi j hj
      rw [addr_add] at h1
      rw [h1]; rfl
    refine ⟨(List.range len).map fun i => ⟨intOf ((W.cell? ⟨b, off + (i * 3 + 0), none⟩).getD undef), intOf ((W.cell? ⟨b, off + (i * 3 + 1), none⟩).getD undef), intOf ((W.cell? ⟨b, off + (i * 3 + 2), none⟩).getD undef)⟩, some ⟨b, off, none⟩, cap, by simp, by simpa using hl, hm, .inr ⟨b, off, rfl, hb, fun j u hu => ?_⟩⟩
    obtain ⟨h1, h2⟩ := flat3_get _ hu
    have h3 : j % 3 = 0 ∨ j % 3 = 1 ∨ j % 3 = 2 := by omega
    have e : j = j / 3 * 3 + j % 3 := by omega
    rcases h3 with h3 | h3 | h3
    · rw [h3] at h2 e
      rw [e, at_ (j / 3) 0 h1 (by decide)]; simpa [fC] using h2
    · rw [h3] at h2 e
      rw [e, at_ (j / 3) 1 h1 (by decide)]; simpa [fC] using h2
    · rw [h3] at h2 e
      rw [e, at_ (j / 3) 2 h1 (by decide)]; simpa [fC] using h2
set_option maxRecDepth 100000 in
/-- A chunk by value. -/
theorem open_chunk {r : Reach} {b0 : Nat} {v : Value} {d : DataW H} {p : List MemPlace} (hv : Value.okWide Try.prog W r b0 26 v) (h : DataW.Trod enc Try.prog W 0 (fun _ => true) true 26 v d p) :
    ∃ hd cs, ChIs W v hd cs := by
  obtain ⟨cs, rfl, hsz⟩ := okWide_struct chF hv
  obtain ⟨fuel, hf⟩ := h
  obtain ⟨xs, n, -, -, hl, hlen, hf'⟩ := DataW.trod_struct chF hf
  rw [chCells] at hsz
  rw [chSize] at hlen
  obtain ⟨l⟩ := cs
  match l, hsz with
  | [x0, x1, x2, x3, x4, x5, x6, x7, x8], _ =>
    have key : ∀ i, i < 8 → ∀ x, [x0, x1, x2, x3, x4, x5, x6, x7, x8][i]? = some x → ∃ z : Int, x = .int .i64 z := by
      intro i hi x hx
      have hi9 : i < (Try.prog.fieldsOf 26).size := by rw [chSize]; omega
      have hfi := Array.getElem?_eq_getElem hi9
      obtain ⟨ho, hk⟩ := hone_of chOne i _ hfi
      have h1 := hf' i _ hfi
      have ht := List.all_eq_true.1 chInts i (List.mem_range.2 hi)
      rw [hfi, Option.any_some] at ht
      rw [ho, hk, show (Try.prog.fieldsOf 26)[i].type = 3 by simpa using ht] at h1
      have hone' : (([x0, x1, x2, x3, x4, x5, x6, x7, x8] : List Value).drop i).take 1 = [x] := by
        rw [List.drop_eq_getElem?_toList_append, hx]; rfl
      simp only [Value.cells] at h1
      rw [hone'] at h1
      obtain ⟨ys, hys⟩ : ∃ y, xs[i]? = some y := ⟨xs[i]'(by omega), List.getElem?_eq_getElem _⟩
      rw [hys] at h1
      obtain ⟨z, hz, -, -⟩ := DataW.trod_int Try.underlying3 h1
      exact ⟨z, by simpa using hz⟩
    obtain ⟨z0, rfl⟩ := key 0 (by decide) x0 rfl
    obtain ⟨z1, rfl⟩ := key 1 (by decide) x1 rfl
    obtain ⟨z2, rfl⟩ := key 2 (by decide) x2 rfl
    obtain ⟨z3, rfl⟩ := key 3 (by decide) x3 rfl
    obtain ⟨z4, rfl⟩ := key 4 (by decide) x4 rfl
    obtain ⟨z5, rfl⟩ := key 5 (by decide) x5 rfl
    obtain ⟨z6, rfl⟩ := key 6 (by decide) x6 rfl
    obtain ⟨z7, rfl⟩ := key 7 (by decide) x7 rfl
    have hi9 : 8 < (Try.prog.fieldsOf 26).size := by rw [chSize]; omega
    have hfi := Array.getElem?_eq_getElem hi9
    obtain ⟨ho, hk⟩ := hone_of chOne 8 _ hfi
    have h1 := hf' 8 _ hfi
    have ht := chLast
    rw [hfi, Option.any_some] at ht
    rw [ho, hk, show (Try.prog.fieldsOf 26)[8].type = 24 by simpa using ht] at h1
    obtain ⟨ys, hys⟩ : ∃ y, xs[8]? = some y := ⟨xs[8]'(by omega), List.getElem?_eq_getElem _⟩
    rw [hys] at h1
    obtain ⟨cs, hcs⟩ := cells_of_trod (v := x8) h1
    exact ⟨⟨z0, z1, z2, z3, z4, z5, z6, z7⟩, cs, x8, rfl, hcs⟩
end
end Go.Proofs.Ytkdnppehlnmlgaa.Vw
