/- Package keep's Keys. -/
import Derived.Test.YteahponbknljlaaRKeys8
import Derived.Test.YteahponbknljlaaGMap
import Derived.Test.YteahponbknljlaaIter8
import Derived.Lib.SlKeysI
namespace Go.Proofs.Yteahponbknljlaa.Kp
open Go.RowKit Go.Maps Go.Sort Go.Shelf Go.Proofs.Yteahponbknljlaa.Ar Go.Proofs.Yteahponbknljlaa.Mx
set_option linter.unusedVariables false
set_option linter.unusedSimpArgs false
theorem fr_below {w w' : World} (h : Below w.heap.size w w') : Fr [] w w' := ⟨h.os, h.tape, h.output, h.size, fun k hk _ => h.block k hk⟩
theorem keys_of (b : Nat) (w : World) : Calls Try.prog 28 #[.map (some b)] w fun e w' => e = .returned (.func (.func 40) #[] #[.pointer (some ⟨w.heap.size, 0, none⟩)]) ∧ w' = w.alloc (.cells #[.map (some b)] 50) :=
  callsIn_wide.1 (AnyZI.keys_in Try.keysA Fence.wide 5 trivial rfl (some b) w)
theorem sortsA (m : Nat) : AnyZI.SortsIn Try.prog Try.sortedA_ren Fence.wide m :=
  ⟨fun blk off cap ss W hH hblk hsz => callsIn_wide.2 (AnyM.slices_Sort_int Try.sortA blk off cap ss W hH hblk hsz),
   fun p cap W => callsIn_wide.2 (AnyM.slices_Sort_int_none Try.sortA p cap W)⟩
theorem flat_fI (l : List Int) : l.map encZ = l.flatMap fI := by
  induction l with
  | nil => rfl
  | cons x r ih => rw [List.map_cons, ih]; rfl
set_option maxHeartbeats 1000000 in
theorem sorted_of (b nn : Nat) (g : Int → Option Value) (ks : List Int) (w : World) (h : GMap w b nn g) (hn : nn ≤ 1000000) (hk : ks.Pairwise (· < ·)) (hm : ∀ k, k ∈ ks ↔ (g k).isSome = true) :
    Calls Try.prog 23 #[.func (.func 40) #[] #[.pointer (some ⟨w.heap.size, 0, none⟩)]] (w.alloc (.cells #[.map (some b)] 50)) fun e w' =>
      (∃ v, e = .returned v ∧ w'.ownsRow (w.alloc (.cells #[.map (some b)] 50)).heap.size 3 1 v ks.length (ks.flatMap fI)) ∧ Fr [] (w.alloc (.cells #[.map (some b)] 50)) w' := by
  obtain ⟨D, hown, hD⟩ := h
  have hsz := hown.size_le
  have hbl := hown.lt
  have hseq : SeqGives Fence.wide 2 Try.prog 40 #[.pointer (some ⟨w.heap.size, 0, none⟩)] encZ (fun ss => ss.Perm (intKeys D)) (Maps.size D) (w.alloc (.cells #[.map (some b)] 50)) :=
    AnyZI.keys_gives (ρ := Try.keysA_ren) { Try.keysA with } Fence.wide _ trivial rfl (by omega) w.heap.size b nn D _ (by simp) (by simp) (by
      obtain ⟨es, clock, hb, Ft, hs, hD⟩ := hown
      exact ⟨es, clock, (Below.heap_alloc _ _ b hbl).trans hb, Ft, hs, hD⟩)
  have cS := AnyZI.sorted_in Try.sortedA Fence.wide 5 trivial trivial trivial trivial rfl (by omega) (sortsA _) (enters_of Try.func35 (by kernel_rfl) rfl) 40 #[.pointer (some ⟨w.heap.size, 0, none⟩)] trivial (enters_of Try.func40 (by kernel_rfl) rfl) _ _ (by unfold maxLen; omega) (by omega) _ hseq
  have hp : ks.Perm (intKeys D) := CollectedI.perm (left := fun _ => false) ⟨hk.imp (fun h e => by omega), fun x => by rw [hm, (hD.2 x).1]; simp⟩ hown intKeyV Try.underlying3 (fun _ => rfl)
  refine (callsIn_wide.1 cS).mono ?_
  rintro e w' ⟨v, ss, rfl, hS, hrow, -, hb⟩
  have e1 : ss.mergeSort (fun x y => decide (x ≤ y)) = ks := (mergeSort_of_perm_i (hS.trans hp.symm)).trans (by
    apply List.mergeSort_of_pairwise
    exact hk.imp (fun h => by simp; omega))
  have e2 : ss.length = ks.length := (hS.trans hp.symm).length_eq
  rw [e1, e2, flat_fI] at hrow
  exact ⟨⟨v, rfl, hrow⟩, fr_below hb⟩
/-- The keys of items, as a map. -/
def memK (l : List It) (k : Int) : Option Value := if l.any (fun x => x.k == k) = true then some (.agg #[]) else none
theorem memK_step {l : List It} {i : Nat} {x : It} (hx : l[i]? = some x) : (fun y => if y = x.k then some (Value.agg #[]) else memK (l.take i) y) = memK (l.take (i + 1)) := by
  funext y
  unfold memK
  rw [List.take_add_one, hx, List.any_append]
  by_cases h : y = x.k
  · subst h; simp
  · have h2 : (x.k == y) = false := by simp; exact fun e => h e.symm
    rw [if_neg h]; simp [h2]
def KysAt (w : World) (bm : Nat) (l : List It) (x : Value) (wr : World) : Prop := ∃ i : Nat, i ≤ l.length ∧ x = .int .i64 (i : Nat) ∧ GMap wr bm i (memK (l.take i)) ∧ Fr [] w wr
set_option maxRecDepth 100000 in
set_option maxHeartbeats 3200000 in
theorem keys8_any (l : List It) (v : Value) (w : World) (hl : l.length ≤ 1000) (hwf : ∀ x, x ∈ l → (Lit.int .i64 x.k).wf = true) (h : Sq fT w v l) :
    Calls Try.prog 18 #[v] w fun e w' => (∃ u, e = .returned u ∧ w'.ownsRow w.heap.size 3 1 u (keysT l).length ((keysT l).flatMap fI)) ∧ Fr [] w w' := by
  obtain ⟨av, cv, rfl, hcv, hmv, -⟩ := id h
  have hmm := @run_makeMap Try.prog
  have m0 := GMap.made w
  have HWF := Lib.hid hwf
  clear hwf
  go_enter Try.func18, Try.ntmps18
  go_wp2_with fail
  clear hmm
  have F0 := (Fr.refl [] w).alloc (.map #[] 0)
  generalize (World.alloc w (.map #[] 0)) = w1 at *
  have hbm : w.heap.size ≤ w.heap.size := Nat.le_refl _
  generalize hbm2 : w.heap.size = bm at m0 hbm ⊢
  have HBM := Lib.hid hbm2
  clear hbm2
  go_loopw [9] (KysAt w bm l) (fun x _ => l.length - (match x with | .int _ z => z.toNat | _ => 0))
  case atStart => exact ⟨0, by omega, rfl, m0, F0⟩
  case round =>
    obtain ⟨i, hi, rfl, hG, F⟩ := hrel
    by_cases hlt : i < l.length
    · obtain ⟨x, hx⟩ : ∃ x, l[i]? = some x := ⟨l[i], List.getElem?_eq_getElem hlt⟩
      have hltz : (i : Int) < (l.length : Int) := by omega
      have HST := Lib.hid (memK_step hx)
      have hkw := HWF.out x (List.mem_of_getElem? hx)
      obtain ⟨gs, os, rfl, x0, x1, x2⟩ := it_cells (h.up F) hx
      have E7 := (Fr.refl [] wr).alloc (.cells #[.int .i64 x.k, .int .i64 x.v, .int .i64 x.d] 26)
      obtain ⟨w8, r8, G8, F8⟩ := GMap.put (hG.up E7) Try.underlying50 (by unfold maxLen; omega) hkw (.agg #[])
      have E8 := Lib.hid ((F.trans E7).own F8 (by simp; have := HBM.out; omega))
      have HG := Lib.hid G8
      clear hx hG F h E7 G8 F8 hkw
      go_wp2_with fail
      exact ⟨⟨i + 1, by omega, by simp, by rw [← HST.out]; exact HG.out, E8.out⟩, by simp; omega⟩
    · have hltz : ¬ (i : Int) < (l.length : Int) := by omega
      have hie : l.length ≤ i := by omega
      rw [List.take_of_length_le hie] at hG
      have hil : i ≤ 1000 := by omega
      have HS := Lib.hid (sorted_of bm i (memK l) (keysT l) wr hG (by omega) (keysT_rise l) (fun k => by
        rw [mem_keysT]
        unfold memK
        constructor
        · rintro ⟨x, hx, rfl⟩
          rw [if_pos (by rw [List.any_eq_true]; exact ⟨x, hx, by simp⟩)]; rfl
        · intro hh
          split at hh
          · rename_i ha
            obtain ⟨x, hx, e⟩ := List.any_eq_true.1 ha
            exact ⟨x, hx, by simpa using e⟩
          · simp at hh))
      have HF := Lib.hid F
      clear hG F h
      go_wp2_with fail
      refine (keys_of bm wr).mono ?_; rintro e _ ⟨rfl, rfl⟩
      go_wp2_with fail
      refine HS.out.mono ?_; rintro e w9 ⟨⟨u, rfl, hr⟩, F9⟩
      have F10 := HF.out.trans (((Fr.refl [] wr).alloc (.cells #[.map (some bm)] 50)).trans F9)
      have hr2 : w9.ownsRow w.heap.size 3 1 u (keysT l).length ((keysT l).flatMap fI) := by
        refine ⟨hr.1, hr.2.imp id ?_⟩
        rintro ⟨g, cap, cur, e1, e2, e3⟩
        have := HF.out.size
        exact ⟨g, cap, cur, e1, by simp at e2; omega, e3⟩
      clear hr F9
      go_wp2_with fail
      go_ret
      exact ⟨⟨u, rfl, hr2⟩, F10⟩
end Go.Proofs.Yteahponbknljlaa.Kp
