/- slices.Sorted(maps.Keys(m)) of the map of latest items. -/
import Derived.Test.YtkdnhaglfbkhfaaChain7
import Derived.Test.YtkdnhaglfbkhfaaIter
import Derived.Lib.SlKeysI
namespace Go.Proofs.Ytkdnhaglfbkhfaa.Ch
open Go.RowKit Go.Maps Go.Sort Go.Shelf Go.Proofs.Ytkdnhaglfbkhfaa.Ar Go.Proofs.Ytkdnhaglfbkhfaa.Mx Go.Proofs.Ytkdnhaglfbkhfaa.Vw
set_option linter.unusedVariables false
set_option linter.unusedSimpArgs false
theorem fr_below {w w' : World} (h : Below w.heap.size w w') : Fr [] w w' := ⟨h.os, h.tape, h.output, h.size, fun k hk _ => h.block k hk⟩
theorem keys_of (b : Nat) (w : World) : Calls Try.prog 29 #[.map (some b)] w fun e w' => e = .returned (.func (.func 40) #[] #[.pointer (some ⟨w.heap.size, 0, none⟩)]) ∧ w' = w.alloc (.cells #[.map (some b)] 66) :=
  callsIn_wide.1 (AnyZI.keys_in Try.keysA Fence.wide 5 trivial rfl (some b) w)
theorem sortsA (m : Nat) : AnyZI.SortsIn Try.prog Try.sortedA_ren Fence.wide m :=
  ⟨fun blk off cap ss W hH hblk hsz => callsIn_wide.2 (AnyM.slices_Sort_int Try.sortA blk off cap ss W hH hblk hsz),
   fun p cap W => callsIn_wide.2 (AnyM.slices_Sort_int_none Try.sortA p cap W)⟩
theorem flat_fN (l : List Int) : l.map encZ = l.flatMap fN := by
  induction l with
  | nil => rfl
  | cons x r ih => rw [List.map_cons, ih]; rfl
set_option maxHeartbeats 1000000 in
theorem sorted_of (b nn : Nat) (g : Int → Option Value) (ks : List Int) (w : World) (h : GMap w b nn g) (hn : nn ≤ 1000000) (hk : ks.Pairwise (· < ·)) (hm : ∀ k, k ∈ ks ↔ (g k).isSome = true) :
    Calls Try.prog 28 #[.func (.func 40) #[] #[.pointer (some ⟨w.heap.size, 0, none⟩)]] (w.alloc (.cells #[.map (some b)] 66)) fun e w' =>
      (∃ v, e = .returned v ∧ w'.ownsRow (w.alloc (.cells #[.map (some b)] 66)).heap.size 3 1 v ks.length (ks.flatMap fN)) ∧ Fr [] (w.alloc (.cells #[.map (some b)] 66)) w' := by
  obtain ⟨D, hown, hD⟩ := h
  have hsz := hown.size_le
  have hbl := hown.lt
  have hseq : SeqGives Fence.wide 2 Try.prog 40 #[.pointer (some ⟨w.heap.size, 0, none⟩)] encZ (fun ss => ss.Perm (intKeys D)) (Maps.size D) (w.alloc (.cells #[.map (some b)] 66)) :=
    AnyZI.keys_gives (ρ := Try.keysA_ren) { Try.keysA with } Fence.wide _ trivial rfl (by omega) w.heap.size b nn D _ (by simp) (by simp) (by
      obtain ⟨es, clock, hb, Ft, hs, hD⟩ := hown
      exact ⟨es, clock, (Below.heap_alloc _ _ b hbl).trans hb, Ft, hs, hD⟩)
  have cS := AnyZI.sorted_in Try.sortedA Fence.wide 5 trivial trivial trivial trivial rfl (by omega) (sortsA _) (enters_of Try.func39 (by kernel_rfl) rfl) 40 #[.pointer (some ⟨w.heap.size, 0, none⟩)] trivial (enters_of Try.func40 (by kernel_rfl) rfl) _ _ (by unfold maxLen; omega) (by omega) _ hseq
  have hp : ks.Perm (intKeys D) := CollectedI.perm (left := fun _ => false) ⟨hk.imp (fun h e => by omega), fun x => by rw [hm, (hD.2 x).1]; simp⟩ hown intKeyV Try.underlying3 (fun _ => rfl)
  refine (callsIn_wide.1 cS).mono ?_
  rintro e w' ⟨v, ss, rfl, hS, hrow, -, hb⟩
  have e1 : ss.mergeSort (fun x y => decide (x ≤ y)) = ks := (mergeSort_of_perm_i (hS.trans hp.symm)).trans (by
    apply List.mergeSort_of_pairwise
    exact hk.imp (fun h => by simp; omega))
  have e2 : ss.length = ks.length := (hS.trans hp.symm).length_eq
  rw [e1, e2, flat_fN] at hrow
  exact ⟨⟨v, rfl, hrow⟩, fr_below hb⟩
end Go.Proofs.Ytkdnhaglfbkhfaa.Ch
