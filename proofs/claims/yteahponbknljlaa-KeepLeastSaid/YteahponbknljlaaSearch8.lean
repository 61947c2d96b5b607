/- slices.BinarySearch at ints; slices.Sorted(slices.Values(l)) at ints; package keep's anyFrom, isGreatest. -/
import Derived.Test.YteahponbknljlaaKeys8
import Derived.Test.YteahponbknljlaaSort8
namespace Go.Proofs.Yteahponbknljlaa.Kp
open Go.RowKit Go.Maps Go.Sort Go.Shelf Go.Proofs.Yteahponbknljlaa.Ar Go.Proofs.Yteahponbknljlaa.Mx
set_option linter.unusedVariables false
set_option linter.unusedSimpArgs false
theorem isNaN2_any (x : Int) (w : World) : Calls Try.prog 50 #[.int .i64 x] w fun e w' => e = .returned (.bool false) ∧ w' = w := by
  go_enter Try.func50, Try.ntmps50
  go_wp2_with fail
  go_ret
  exact ⟨by simp, rfl⟩
theorem less_any (x y : Int) (w : World) : Calls Try.prog 49 #[.int .i64 x, .int .i64 y] w fun e w' => e = .returned (.bool (decide (x < y))) ∧ w' = w := by
  go_enter Try.func49, Try.ntmps49
  go_wp2_with (go_at_call 43; refine (isNaN_any _ _).mono ?_; rintro e w' ⟨rfl, rfl⟩)
  go_ret
  exact ⟨by simp, rfl⟩
set_option maxRecDepth 100000 in
set_option maxHeartbeats 3200000 in
theorem search_any (zs : List Int) (v : Value) (x : Int) (w : World) (hl : zs.length ≤ 1000) (h : Sq fI w v zs) (hs : ∀ (i j : Nat) (a b : Int), i ≤ j → zs[i]? = some a → zs[j]? = some b → a ≤ b) :
    Calls Try.prog 39 #[v, .int .i64 x] w fun e w' => (∃ (lo : Nat) (u : Value), e = .returned (.tuple #[.int .i64 (lo : Nat), u]) ∧ lo ≤ zs.length ∧ (∀ (t : Nat) (a : Int), t < lo → zs[t]? = some a → a < x) ∧ (∀ (t : Nat) (a : Int), lo ≤ t → zs[t]? = some a → x ≤ a)) ∧ Fr [] w w' := by
  obtain ⟨av, cv, rfl, hcv, hmv, -⟩ := id h
  have HS := Lib.hid hs
  clear hs
  go_enter Try.func39, Try.ntmps39
  go_wp2_with fail
  go_loopg [7, 8] zs.length (fun kx s7 s8 wr => ∃ lo hi : Nat, s7 = .int .i64 lo ∧ s8 = .int .i64 hi ∧ lo ≤ hi ∧ hi ≤ zs.length ∧ hi - lo ≤ kx ∧ Aside (Fr [] w wr) ∧ Aside ((∀ (t : Nat) (a : Int), t < lo → zs[t]? = some a → a < x) ∧ (∀ (t : Nat) (a : Int), hi ≤ t → zs[t]? = some a → x ≤ a)))
  case atStart => exact ⟨0, zs.length, rfl, rfl, by omega, by omega, by omega, Fr.refl _ _, fun t a h1 => absurd h1 (by omega), fun t a h1 h2 => by rw [List.getElem?_eq_none h1] at h2; cases h2⟩
  case round =>
    obtain ⟨lo, hi, rfl, rfl, h1, h2, hkx, HF, HI⟩ := hrel
    by_cases hlt : lo < hi
    · obtain ⟨c, hc1, hc2⟩ : ∃ c, 2 * c ≤ lo + hi ∧ lo + hi ≤ 2 * c + 1 := ⟨(lo + hi) / 2, by omega, by omega⟩
      have hltz : (lo : Int) < (hi : Int) := by omega
      have hcz : ((lo : Int) + (hi : Int)) / 2 = (c : Int) := by omega
      have hct : ((c : Int)).toNat = c := by omega
      have hc0 : (0 : Int) ≤ (c : Int) := by omega
      have hcl : (c : Int) < (zs.length : Int) := by omega
      obtain ⟨y, hy⟩ : ∃ y, zs[c]? = some y := ⟨zs[c]'(by omega), List.getElem?_eq_getElem _⟩
      obtain ⟨gz, oz, rfl, y0⟩ := int_cell (h.up HF.out) hy
      have HY := Lib.hid hy
      clear hy h
      by_cases hyx : y < x
      · go_wp2_with (go_at_call 49; refine (less_any _ _ _).mono ?_; rintro e w' ⟨rfl, rfl⟩)
        go_roundg (hi - (c + 1))
        case measure => omega
        case rel => exact ⟨c + 1, hi, by first | rfl | go_num, rfl, by omega, by omega, by omega, HF, fun t a ht ha => by have := HS.out t c a y (by omega) ha HY.out; omega, HI.out.2⟩
      · go_wp2_with (go_at_call 49; refine (less_any _ _ _).mono ?_; rintro e w' ⟨rfl, rfl⟩)
        go_roundg (c - lo)
        case measure => omega
        case rel => exact ⟨lo, c, rfl, by first | rfl | go_num, by omega, by omega, by omega, HF, HI.out.1, fun t a ht ha => by have := HS.out c t y a ht HY.out ha; omega⟩
    · obtain rfl : lo = hi := by omega
      have hltz : ¬ (lo : Int) < (lo : Int) := by omega
      by_cases hn : lo < zs.length
      · have hnz : (lo : Int) < (zs.length : Int) := by omega
        have hlt0 : ((lo : Int)).toNat = lo := by omega
        have hl0 : (0 : Int) ≤ (lo : Int) := by omega
        obtain ⟨y, hy⟩ : ∃ y, zs[lo]? = some y := ⟨zs[lo], List.getElem?_eq_getElem hn⟩
        obtain ⟨gz, oz, rfl, y0⟩ := int_cell (h.up HF.out) hy
        clear hy h
        by_cases hyx : y = x
        · have hyb : (y == x) = true := by simpa using hyx
          clear hyx
          go_wp2_with (go_at_call 50; refine (isNaN2_any _ _).mono ?_; rintro e w' ⟨rfl, rfl⟩)
          go_ret2
          first | exact ⟨⟨lo, _, rfl, h2, HI.out.1, HI.out.2⟩, HF.out⟩ | exact ⟨⟨lo, rfl, h2, HI.out.1, HI.out.2⟩, HF.out⟩ | exact ⟨⟨lo, by simp, h2, HI.out.1, HI.out.2⟩, HF.out⟩
        · have hyb : (y == x) = false := by simpa using hyx
          clear hyx
          go_wp2_with (go_at_call 50; refine (isNaN2_any _ _).mono ?_; rintro e w' ⟨rfl, rfl⟩)
          go_ret2
          first | exact ⟨⟨lo, _, rfl, h2, HI.out.1, HI.out.2⟩, HF.out⟩ | exact ⟨⟨lo, rfl, h2, HI.out.1, HI.out.2⟩, HF.out⟩ | exact ⟨⟨lo, by simp, h2, HI.out.1, HI.out.2⟩, HF.out⟩
      · have hnz : ¬ (lo : Int) < (zs.length : Int) := by omega
        clear h
        go_wp2_with fail
        go_ret2
        first | exact ⟨⟨lo, _, rfl, h2, HI.out.1, HI.out.2⟩, HF.out⟩ | exact ⟨⟨lo, rfl, h2, HI.out.1, HI.out.2⟩, HF.out⟩ | exact ⟨⟨lo, by simp, h2, HI.out.1, HI.out.2⟩, HF.out⟩
/-- In order, as slices.Sorted leaves it. -/
def srtZ (l : List Int) : List Int := l.mergeSort (fun x y => decide (x ≤ y))
theorem srtZ_len (l : List Int) : (srtZ l).length = l.length := by simp [srtZ]
theorem mem_srtZ {l : List Int} {x : Int} : x ∈ srtZ l ↔ x ∈ l := by simp [srtZ]
theorem srtZ_le (l : List Int) : ∀ (i j : Nat) (a b : Int), i ≤ j → (srtZ l)[i]? = some a → (srtZ l)[j]? = some b → a ≤ b := by
  have hp : (srtZ l).Pairwise (fun x y => decide (x ≤ y) = true) := List.pairwise_mergeSort (fun a b c h1 h2 => by simp at *; omega) (fun a b => by simp; omega) l
  intro i j a b hij ha hb
  obtain ⟨hi, rfl⟩ := List.getElem?_eq_some_iff.1 ha
  obtain ⟨hj, rfl⟩ := List.getElem?_eq_some_iff.1 hb
  by_cases e : i = j
  · subst e; exact Int.le_refl _
  · have := (List.pairwise_iff_getElem.1 hp) i j hi hj (by omega)
    simpa using this
set_option maxHeartbeats 1600000 in
theorem sortedI_any (l : List Int) (av : Option Addr) (nv cv : Nat) (Bm : Nat) (w : World) (hm : w.cell? ⟨Bm, 0, none⟩ = some (.slice av nv cv)) (h : Sq fI w (.slice av nv cv) l) (hl : l.length ≤ 1000) :
    Calls Try.prog 23 #[.func (.func 36) #[] #[.pointer (some ⟨Bm, 0, none⟩)]] w fun e w' => (∃ u, e = .returned u ∧ w'.ownsRow w.heap.size 3 1 u (srtZ l).length ((srtZ l).flatMap fI)) ∧ Fr [] w w' := by
  have hf := ApI.feeds 3 (by omega) Bm _ l _ hm h hl
  have H := callsIn_wide.1 (ApI.collect 5 (by omega) _ _ (enters_of Try.func36 (by kernel_rfl) rfl) _ _ hl w hf)
  clear hf hm h
  go_enter Try.func23, Try.ntmps23
  go_wp2_with fail
  refine H.mono ?_
  rintro e w1 ⟨u, ss, rfl, hs, hrow, hb⟩
  subst hs
  have F1 := ApI.fr_of hb
  clear H hb
  rcases hrow.2 with ⟨rfl, h0⟩ | ⟨g, cap, cur, rfl, hbase, hgb, r1, r2, r3, r4⟩
  · obtain rfl := List.eq_nil_of_length_eq_zero h0
    have H2 := AnyM.slices_Sort_int_none Try.sortA none 0 w1
    have HR := Lib.hid (And.intro hrow F1)
    clear hrow F1
    go_wp2_with fail
    refine H2.mono ?_
    rintro e w2 ⟨rfl, rfl⟩
    clear H2
    go_wp2_with fail
    go_ret
    exact ⟨⟨_, rfl, by simpa [srtZ] using HR.out.1⟩, HR.out.2⟩
  · have hH : Holds encZ w1 g 0 ss.toArray := holds_of_block_i hgb (by rw [flat_fI]; simpa using r4)
    have H2 := AnyM.slices_Sort_int Try.sortA g 0 cap ss w1 hH (Array.getElem?_eq_some_iff.1 hgb).1 (by omega)
    have HR := Lib.hid (And.intro F1 (And.intro hbase (And.intro hgb (And.intro r1 (And.intro r2 r3)))))
    clear hrow F1 hbase hgb r1 r2 r3 r4 hH
    go_wp2_with fail
    refine H2.mono ?_
    rintro e w2 ⟨rfl, nn, os, rfl⟩
    clear H2
    obtain ⟨F1, hbase, hgb, r1, r2, r3⟩ := HR.out
    have hrow9 : (Sort.grow (putRow encZ (Sort.ahead w1 nn) g 0 (srtZ ss).toArray) os).ownsRow w.heap.size 3 1 (.slice (some ⟨g, 0, none⟩) ss.length cap) ss.length ((srtZ ss).map encZ) := ownsRow_sorted_i (by simp [srtZ]) hbase hgb r1 r2 r3
    have F2 : Fr [] w (Sort.grow (putRow encZ (Sort.ahead w1 nn) g 0 (srtZ ss).toArray) os) := F1.own (fr_grown_some (grownBy_sorted_i (w := w1) (g := g) (n := nn) (os := os) (srtZ ss).toArray)) (by simpa using hbase)
    have HE := Lib.hid (And.intro hrow9 F2)
    clear hrow9 F2 F1 hbase hgb r1 r2 r3 HR
    unfold srtZ at HE
    generalize Sort.grow (putRow encZ (Sort.ahead w1 nn) g 0 (ss.mergeSort fun x y => decide (x ≤ y)).toArray) os = w9 at HE ⊢
    go_wp2_with fail
    go_ret
    refine ⟨⟨_, rfl, ?_⟩, HE.out.2⟩
    have := HE.out.1
    rw [flat_fI] at this
    rw [srtZ_len]
    exact this
/-- Is one of them from fr on, and below be? -/
def anyZ (zs : List Int) (fr be : Int) : Bool := zs.any fun z => decide (fr ≤ z) && decide (z < be)
set_option maxRecDepth 100000 in
set_option maxHeartbeats 1600000 in
theorem anyFrom_any (zs : List Int) (v : Value) (fr be : Int) (w : World) (hl : zs.length ≤ 1000) (h : Sq fI w v zs) (hs : ∀ (i j : Nat) (a b : Int), i ≤ j → zs[i]? = some a → zs[j]? = some b → a ≤ b) :
    Calls Try.prog 27 #[v, .int .i64 fr, .int .i64 be] w fun e w' => e = .returned (.bool (anyZ zs fr be)) ∧ Fr [] w w' := by
  obtain ⟨av, cv, rfl, hcv, hmv, -⟩ := id h
  have H := search_any zs _ fr w hl h hs
  have HS := Lib.hid hs
  clear hs
  go_enter Try.func27, Try.ntmps27
  go_wp2_with fail
  refine H.mono ?_
  rintro e w1 ⟨⟨lo, u, rfl, h1, h2, h3⟩, F⟩
  have HI := Lib.hid (And.intro h2 h3)
  clear H h2 h3
  by_cases hn : lo < zs.length
  · have hnz : (lo : Int) < (zs.length : Int) := by omega
    have hl0 : (0 : Int) ≤ (lo : Int) := by omega
    have hlt : ((lo : Int)).toNat = lo := by omega
    obtain ⟨y, hy⟩ : ∃ y, zs[lo]? = some y := ⟨zs[lo], List.getElem?_eq_getElem hn⟩
    have hfy := HI.out.2 lo y (Nat.le_refl _) hy
    obtain ⟨gz, oz, rfl, y0⟩ := int_cell (h.up F) hy
    have HF := Lib.hid F
    have HY := Lib.hid hy
    clear hy h F
    have hany : anyZ zs fr be = decide (y < be) := by
      unfold anyZ
      rw [Bool.eq_iff_iff, List.any_eq_true]
      simp only [Bool.and_eq_true, decide_eq_true_eq]
      constructor
      · rintro ⟨z, hz, hz1, hz2⟩
        obtain ⟨t, ht⟩ := List.mem_iff_getElem?.1 hz
        by_cases hc : t < lo
        · have := HI.out.1 t z hc ht; omega
        · have := HS.out lo t y z (by omega) HY.out ht; omega
      · intro hyb
        exact ⟨y, List.mem_of_getElem? HY.out, hfy, hyb⟩
    have HA := Lib.hid hany
    clear hany
    go_wp2_with fail
    go_ret
    exact ⟨by rw [HA.out]; rfl, HF.out⟩
  · have hnz : ¬ (lo : Int) < (zs.length : Int) := by omega
    have HF := Lib.hid F
    clear h F
    have hany : anyZ zs fr be = false := by
      unfold anyZ
      rw [Bool.eq_false_iff]
      intro hc
      obtain ⟨z, hz, hz1⟩ := List.any_eq_true.1 hc
      simp only [Bool.and_eq_true, decide_eq_true_eq] at hz1
      obtain ⟨t, ht⟩ := List.mem_iff_getElem?.1 hz
      have := (List.getElem?_eq_some_iff.1 ht).1
      have := HI.out.1 t z (by omega) ht
      omega
    have HA := Lib.hid hany
    clear hany
    go_wp2_with fail
    go_ret
    exact ⟨by rw [HA.out]; rfl, HF.out⟩
end Go.Proofs.Yteahponbknljlaa.Kp
