/- 'append(s, x...)' of a row of pairs, wherever it lies. -/
import Derived.Test.YtjhgjpkiinkaeaaRScan
import Derived.Deep.Upon
namespace Go.Proofs.Ytjhgjpkiinkaeaa.Mp
open Go.RowKit Go.Proofs.Ytjhgjpkiinkaeaa.Ar
set_option linter.unusedVariables false
set_option linter.unusedSimpArgs false
theorem src_none (w : World) (cap : Nat) : Src Try.prog 2 29 (.slice none 0 cap) 0 [] w :=
  ⟨.inl ⟨_, Try.underlying29⟩, fun w' => by rfl, by rfl, by rfl, rfl, by simp⟩
theorem addr_add (b o j : Nat) : (⟨b, o, none⟩ : Addr).add j = ⟨b, o + j, none⟩ := by
  unfold Addr.add; split
  · rename_i h; subst h; rfl
  · rfl
theorem flat_get {ps : List (Int × Int)} {j : Nat} {u : Value} (h : (ps.flatMap cells2)[j]? = some u) : ∃ i, i < ps.length ∧ (j = i * 2 ∧ u = .int .i64 (ps.getD i (0, 0)).1 ∨ j = i * 2 + 1 ∧ u = .int .i64 (ps.getD i (0, 0)).2) := by
  have hj := (List.getElem?_eq_some_iff.1 h).1
  have hl : (ps.flatMap cells2).length = ps.length * 2 := by
    clear h hj
    induction ps with
    | nil => rfl
    | cons p ps ih => rw [List.flatMap_cons, List.length_append, ih]; simp [cells2]; omega
  rw [hl] at hj
  refine ⟨j / 2, by omega, ?_⟩
  rcases Nat.mod_two_eq_zero_or_one j with e | e
  · left
    have ej : j = j / 2 * 2 + 0 := by omega
    refine ⟨by omega, ?_⟩
    rw [ej, flat_pair (by omega) (by decide)] at h
    simpa [cells2] using h.symm
  · right
    have ej : j = j / 2 * 2 + 1 := by omega
    refine ⟨by omega, ?_⟩
    rw [ej, flat_pair (by omega) (by decide)] at h
    simpa [cells2] using h.symm
theorem flat_len (ps : List (Int × Int)) : (ps.flatMap cells2).length = ps.length * 2 := by
  induction ps with
  | nil => rfl
  | cons p ps ih => rw [List.flatMap_cons, List.length_append, ih]; simp [cells2]; omega
theorem wpList_appPairs {w : World} {ops : Array Oper} {rest : List Oper} {o : Oper} {a : Act} {Q : Exit → Act → World → Prop} (hgd : o.guard = none) (s x : Operand)
    (ho : o.op = .call { callee := .builtin .append, args := #[s, x], argTypes := #[29, 29] })
    {B : Nat} (v : Value) (os : List (Int × Int)) (hs : a.eval s = v) (hown : w.ownsRow B 48 2 v os.length (os.flatMap cells2)) (xv : Value) (ps : List (Int × Int)) (hx : a.eval x = xv) (hp : PairRow w xv ps)
    (hl : os.length + ps.length ≤ 1000) (hbase : B ≤ w.heap.size)
    (h : ∀ a' c' w', w'.ownsRow B 48 2 (.slice a' (os ++ ps).length c') (os ++ ps).length ((os ++ ps).flatMap cells2) → Fr v.ownBlock.toList w w' → wpList Try.prog ops Q rest (a.put o.dst (.slice a' (os ++ ps).length c')) w') : wpList Try.prog ops Q (o :: rest) a w := by
  obtain ⟨ad, cap, rfl, hm, hc⟩ := hp
  obtain ⟨i, hi0, hz, hs0, hb0⟩ := info_parts pairInfo
  have go : ∀ (b off : Nat), ad = some ⟨b, off, none⟩ → (∀ i, i < ps.length → w.cell? ⟨b, off + i * 2, none⟩ = some (.int .i64 (ps.getD i (0, 0)).1) ∧ w.cell? ⟨b, off + i * 2 + 1, none⟩ = some (.int .i64 (ps.getD i (0, 0)).2)) → wpList Try.prog ops Q (o :: rest) a w := by
    rintro b off rfl hcell
    refine wpList_append_own_at w hgd s x 29 ho B 48 i _ 2 16 Try.underlying29 hi0 hz hs0 hb0 rfl (by decide) v os.length _ hs hown ⟨b, off, none⟩ ps.length cap (ps.flatMap cells2) hx (flat_len ps)
      (fun j u hu => ?_) (fun u hu => ?_) (by unfold maxLen; omega) (by omega) hbase fun v' w' h2 h3 _ _ => ?_
    · obtain ⟨i, hi, h1 | h1⟩ := flat_get hu
      · obtain ⟨rfl, rfl⟩ := h1; rw [addr_add]; exact (hcell i hi).1
      · obtain ⟨rfl, rfl⟩ := h1; rw [addr_add]; exact (hcell i hi).2
    · obtain ⟨p, -, hp⟩ := List.mem_flatMap.1 hu
      simp only [cells2, List.mem_cons, List.not_mem_nil, or_false] at hp
      rcases hp with rfl | rfl <;> rfl
    · rw [← List.flatMap_append, ← List.length_append] at h2
      obtain ⟨a', c', rfl, -, -⟩ := row_cell h2
      exact h a' c' w' h2 (fr_grown h3)
  rcases hc with h0 | ⟨b, off, e, -, hcell⟩
  · obtain rfl : ps = [] := List.eq_nil_of_length_eq_zero h0
    cases ad with
    | some ad =>
      obtain ⟨b, off, pth⟩ := ad
      refine wpList_append_own_at w hgd s x 29 ho B 48 i _ 2 16 Try.underlying29 hi0 hz hs0 hb0 rfl (by decide) v os.length _ hs hown ⟨b, off, pth⟩ 0 cap [] hx rfl
        (fun j u hu => by simp at hu) (fun u hu => by simp at hu) (by unfold maxLen; omega) (by omega) hbase fun v' w' h2 h3 _ _ => ?_
      obtain ⟨a', c', rfl, -, -⟩ := row_cell h2
      rw [List.append_nil] at h
      exact h a' c' w' (by simpa using h2) (fr_grown h3)
    | none =>
      have hown' := hown
      obtain ⟨hxl, hv⟩ := hown
      have hle : ∃ b0 c0, v = .slice b0 os.length c0 ∧ os.length ≤ c0 := by
        rcases hv with ⟨rfl, e0⟩ | ⟨g, c0, cur, rfl, -, -, h1, -⟩
        · have hx0 : os.length = 0 := by first | exact e0 | omega
          exact ⟨none, 0, by rw [hx0], by omega⟩
        · exact ⟨_, c0, rfl, by first | exact h1 | omega⟩
      obtain ⟨b0, c0, rfl, hle⟩ := hle
      refine wpList_plain hgd fun K hK => ?_
      have hr := run_append_nothing (P := Try.prog) w 29 29 o.type 48 i Try.underlying29 hi0 b0 os.length c0 hle (.slice none 0 cap) (by rw [hs0]; exact src_none w cap)
      unfold Oper.wp execOp
      have hx' : a.eval x = .slice none 0 cap := hx
      simp only [ho, resolve, invoke, builtin, Sem.run_bind, Sem.run_pure, Result.andThen_ok, List.map_toArray, List.map_cons, List.map_nil, hs, hx', hr]
      have h' := h b0 c0 w
      rw [List.append_nil] at h'
      exact hK _ _ (h' hown' (Fr.refl _ _))
  · exact go b off e hcell
end Go.Proofs.Ytjhgjpkiinkaeaa.Mp
