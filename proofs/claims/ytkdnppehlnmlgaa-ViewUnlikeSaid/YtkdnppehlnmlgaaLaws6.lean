/- The walks of ViewUnlike and ViewItems. -/
import Derived.Test.YtkdnppehlnmlgaaKnown6
import Derived.Test.YtkdnppehlnmlgaaOpen6
namespace Go.Proofs.Ytkdnppehlnmlgaa.Vw
open Go.RowKit Go.Proofs.Ytkdnppehlnmlgaa.Ar Go.Proofs.Ytkdnppehlnmlgaa.Mx
set_option linter.unusedVariables false
set_option linter.unusedSimpArgs false
theorem add_ne {f n : Int} (h0 : n ≠ 0) (h1 : -9223372036854775808 ≤ n) (h2 : n ≤ 9223372036854775807) : f ≠ wrap64 (f + n) := by unfold wrap64; omega
theorem Sq.own_lt {α : Type} {f : α → List Value} {w : World} {v : Value} {xs : List α} (h : Sq f w v xs) (hx : xs ≠ []) : ∀ g, g ∈ v.ownBlock.toList → g < w.heap.size := by
  obtain ⟨a, cap, rfl, -, -, h0 | ⟨g, off, rfl, hg, -⟩⟩ := h
  · exact absurd (List.eq_nil_of_length_eq_zero h0) hx
  · intro k hk
    simp [Value.ownBlock] at hk
    omega
theorem _root_.Go.Proofs.Ytkdnppehlnmlgaa.Mx.Sq.kept2 {α : Type} {f : α → List Value} {S : List Nat} {w w' : World} {v : Value} {xs : List α} (h : Sq f w v xs) (k : Fr S w w') (hS : ∀ g, g ∈ v.ownBlock.toList → xs ≠ [] → g ∉ S) : Sq f w' v xs := by
  by_cases hx : xs = []
  · subst hx
    obtain ⟨a, cap, rfl, h1, h2, -⟩ := h
    exact ⟨a, cap, rfl, h1, h2, .inl rfl⟩
  · exact h.kept k (fun g hg => hS g hg hx)
theorem made3 : (madeCells (Value.agg #[.int .i64 0, .int .i64 0, .int .i64 0]).cells (1 * 3)).toList = ([⟨0, 0, 0⟩] : List Ce).flatMap fC := by kernel_rfl
theorem flatL_get (cs : List Ce) {j : Nat} {u : Value} (h : (cs.flatMap fC)[j]? = some u) : ∃ c, cs[j / 3]? = some c ∧ (fC c)[j % 3]? = some u := by
  have hj := (List.getElem?_eq_some_iff.1 h).1
  rw [fC_lays.flat] at hj
  have hi : j / 3 < cs.length := by omega
  refine ⟨cs[j / 3], List.getElem?_eq_getElem hi, ?_⟩
  have e := fC_lays.at (xs := cs) (i := j / 3) (j := j % 3) (List.getElem?_eq_getElem hi) (by omega)
  rw [show j / 3 * 3 + j % 3 = j by omega] at e
  rw [← e]; exact h
theorem sq_set {w : World} {g n cap m : Nat} {cs : List Ce} {x : Ce} {cur : Array Value} {T : TypeId} (h : Sq fC w (.slice (some ⟨g, 0, none⟩) n cap) cs) (hh : w.heap[g]? = some (.cells cur T (0, 0))) (hx : cs[m]? = some x) (v : Int) :
    Sq fC (w.setCell ⟨g, m * 3 + 2, none⟩ (.int .i64 v)) (.slice (some ⟨g, 0, none⟩) n cap) (cs.set m { x with d := v }) := by
  obtain ⟨-, g', off', e', d2⟩ := Sq.cell fC_lays h hx
  obtain ⟨a', cap', e, h1, h2, h3⟩ := h
  simp only [Value.slice.injEq] at e
  obtain ⟨rfl, rfl, rfl⟩ := e
  have hm := (List.getElem?_eq_some_iff.1 hx).1
  simp only [Option.some.injEq, Addr.mk.injEq] at e'
  obtain ⟨rfl, rfl, -⟩ := e'
  have hc2 := d2 2 (.int .i64 x.d) rfl
  rw [cell_of_row _ _ _ _ _ _ hh, Nat.zero_add] at hc2
  have hlt : m * 3 + 2 < cur.size := (Array.getElem?_eq_some_iff.1 hc2).1
  have hh' := heap_setCell_same w g (m * 3 + 2) cur T (.int .i64 v) hh
  refine ⟨_, cap, by simp, by simpa using h1, h2, .inr ⟨g, 0, rfl, (Array.getElem?_eq_some_iff.1 hh').1, fun j u hu => ?_⟩⟩
  rw [cell_of_row _ _ _ _ _ _ hh', Nat.zero_add]
  obtain ⟨c, hc, hu⟩ := flatL_get _ hu
  rcases h3 with h0 | ⟨g2, o2, e2, -, hall⟩
  · omega
  simp only [Option.some.injEq, Addr.mk.injEq] at e2
  obtain ⟨rfl, rfl, -⟩ := e2
  have hold : ∀ i c j u, cs[i]? = some c → j < 3 → (fC c)[j]? = some u → cur[i * 3 + j]? = some u := by
    intro i c j u hi hj hu
    have := hall (i * 3 + j) u ((fC_lays.at hi hj).trans hu)
    rwa [cell_of_row _ _ _ _ _ _ hh, Nat.zero_add] at this
  have ej : j = j / 3 * 3 + j % 3 := by omega
  have h3 : j % 3 < 3 := Nat.mod_lt _ (by decide)
  by_cases hjm : j / 3 = m
  · rw [hjm, List.getElem?_set_self hm] at hc
    obtain rfl := Option.some.inj hc
    have h4 : j % 3 = 0 ∨ j % 3 = 1 ∨ j % 3 = 2 := by omega
    rw [hjm] at ej
    rcases h4 with h4 | h4 | h4
    · rw [h4] at hu ej
      rw [Array.getElem?_setIfInBounds_ne (by omega), ej]
      exact hold m x 0 u hx (by decide) hu
    · rw [h4] at hu ej
      rw [Array.getElem?_setIfInBounds_ne (by omega), ej]
      exact hold m x 1 u hx (by decide) hu
    · rw [h4] at hu ej
      rw [ej, Array.getElem?_setIfInBounds_self_of_lt hlt]
      exact hu
  · rw [List.getElem?_set_ne (fun e => hjm e.symm)] at hc
    rw [Array.getElem?_setIfInBounds_ne (by omega), ej]
    exact hold _ c _ u hc h3 hu
set_option maxRecDepth 100000 in
set_option maxHeartbeats 6400000 in
theorem unlike_true (d : Hd) (cs : List Ce) (v : Value) (k n : Int) (w : World) (hv : ChIs w v d cs) (hk : 0 ≤ k ∧ k < 256) (hn : -9223372036854775808 ≤ n ∧ n ≤ 9223372036854775807) :
    Calls Try.prog 4 #[v, .int .u8 k, .int .i64 n] w fun e w' => e = .returned (.bool true) ∧ Fr [] w w' := by
  obtain ⟨lv, rfl, hs⟩ := hv
  have hab := fun hx => Sq.own_lt hs hx
  obtain ⟨a, cap, rfl, hcap, hmax, -⟩ := id hs
  have F0 := (Fr.refl [] w).alloc (.cells (chC d (.slice a cs.length cap)) 26)
  have o0 := Ob.new w 26 (chC d (.slice a cs.length cap))
  unfold chC at F0 o0
  unfold chV
  go_enter Try.func4, Try.ntmps4
  go_wp2_with fail
  refine (known_true _).mono ?_; rintro e w1 ⟨rfl, F1⟩
  replace o0 := o0.up F1
  have G := F0.trans F1
  have hs1 := hs.up G
  have hlt := o0.lt
  clear F0 F1 hs
  obtain ⟨x0, x1, x2, x3, x4, x5, x6, x7, x8⟩ := ch_cells (h := d) (lv := .slice a cs.length cap) o0
  by_cases hl : cs.length ≤ 16
  · have g1 : decide ((cs.length : Int) > 16) = false := by simp; omega
    by_cases h0 : n = 0
    · have g2 : (n == 0) = true := by simpa using h0
      clear h0
      go_wp2
      go_ret
      exact ⟨rfl, G⟩
    have g2 : (n == 0) = false := by simpa using h0
    have H0 := Lib.hid h0
    clear h0
    have hk9 : k % 9 = 0 ∨ k % 9 = 1 ∨ k % 9 = 2 ∨ k % 9 = 3 ∨ k % 9 = 4 ∨ k % 9 = 5 ∨ k % 9 = 6 ∨ k % 9 = 7 ∨ k % 9 = 8 := by omega
    rcases hk9 with h9 | h9 | h9 | h9 | h9 | h9 | h9 | h9 | h9
    · have hby : w.heap.size < w1.heap.size := hlt
      have oy0 := Ob.new w1 26 (chC d (.slice a cs.length cap))
      have Fa := (Fr.refl [] w1).alloc (.cells (chC d (.slice a cs.length cap)) 26)
      unfold chC at oy0 Fa
      go_wp2_with (at_builtin; refine wpList_appSq fC_lays rfl _ _ 24 rfl Try.underlying24 ceI rfl (B := w1.heap.size) (.slice none 0 0) [] rfl ⟨rfl, .inl ⟨rfl, rfl⟩⟩ _ cs rfl (hs1.up Fa) (by simp; omega) (by decide) (by simp) ?_; intro a7 c7 w7 r7 F7; rw [List.nil_append] at r7; have oy := Ob.kept oy0 F7 (by simp [Value.ownBlock]); obtain ⟨y0, y1, y2, y3, y4, y5, y6, y7, y8⟩ := ch_cells (h := d) (lv := .slice a cs.length cap) oy; have z := oy.frozen; obtain ⟨k0, k1, k2, k3, k4, k5, k6, k7, k8⟩ := ch_cells (h := d) (lv := .slice a cs.length cap) (Ob.kept (o0.up Fa) F7 (by simp [Value.ownBlock])); have hne : w.heap.size ≠ w1.heap.size := by omega)
      have ox := Ob.kept (o0.up Fa) F7 (by simp [Value.ownBlock])
      have hs7 := (hs1.up Fa).up F7
      have G7 := (G.trans Fa).trans F7
      have hn7 := row_ne r7 oy (by decide)
      have sr7 := Sq.own r7
      have o8 : Ob ((w7.setCell ⟨w1.heap.size, 8, none⟩ (.slice a7 cs.length c7)).setCell ⟨w1.heap.size, 0, none⟩ (.int .i64 (wrap64 (d.at_ + n)))) w1.heap.size 26 (chC ({ d with at_ := wrap64 (d.at_ + n) } : Hd) (.slice a7 cs.length c7)) := by
        have := Ob.set (Ob.set oy (i := 8) (.slice a7 cs.length c7)) (i := 0) (.int .i64 (wrap64 (d.at_ + n)))
        unfold chC
        exact this
      have F8 : Fr [w1.heap.size] w7 ((w7.setCell ⟨w1.heap.size, 8, none⟩ (.slice a7 cs.length c7)).setCell ⟨w1.heap.size, 0, none⟩ (.int .i64 (wrap64 (d.at_ + n)))) := Fr.setCell' (Fr.setCell (b := w1.heap.size) (i := 8) (.slice a7 cs.length c7) (by simp)) (b := w1.heap.size) (i := 0) (.int .i64 (wrap64 (d.at_ + n))) (by simp)
      generalize ((w7.setCell ⟨w1.heap.size, 8, none⟩ (.slice a7 cs.length c7)).setCell ⟨w1.heap.size, 0, none⟩ (.int .i64 (wrap64 (d.at_ + n)))) = w8 at *
      clear x0 x1 x2 x3 x4 x5 x6 x7 x8 oy oy0 o0 hs1 G Fa F7
      have oy := o8
      clear o8
      replace ox := ox.kept F8 (by simp; omega)
      have hs8 := hs7.kept2 F8 (fun g hg hx hi => by rw [List.mem_singleton.1 hi] at hg; have := hab hx _ hg; omega)
      have sr8 := sr7.kept F8 (fun g hg hi => by rw [List.mem_singleton.1 hi] at hg; exact hn7 hg)
      have G8 := G7.own F8 (by simp; omega)
      clear F8 hs7 sr7 G7 hn7 r7
      refine (same_any d ({ d with at_ := wrap64 (d.at_ + n) } : Hd) cs cs _ _ w8 (by omega) (by omega) ⟨_, rfl, hs8⟩ ⟨.slice a7 cs.length c7, rfl, sr8⟩).mono ?_; rintro e w9 ⟨rfl, F9⟩
      rw [show decide (d = ({ d with at_ := wrap64 (d.at_ + n) } : Hd) ∧ cs = cs) = false from decide_eq_false (fun e => add_ne H0.out hn.1 hn.2 (congrArg Hd.at_ e.1))]
      replace ox := ox.up F9
      replace oy := oy.up F9
      replace hs8 := hs8.up F9
      replace sr8 := sr8.up F9
      replace G8 := G8.trans F9
      clear F9
      obtain ⟨y0, y1, y2, y3, y4, y5, y6, y7, y8⟩ := ch_cells (h := ({ d with at_ := wrap64 (d.at_ + n) } : Hd)) (lv := .slice a7 cs.length c7) oy
      go_wp2_with fail
      refine (same_any ({ d with at_ := wrap64 (d.at_ + n) } : Hd) ({ d with at_ := wrap64 (d.at_ + n) } : Hd) cs cs _ _ w9 (by omega) (by omega) ⟨.slice a7 cs.length c7, rfl, sr8⟩ ⟨.slice a7 cs.length c7, rfl, sr8⟩).mono ?_; rintro e w10 ⟨rfl, F10⟩
      rw [show decide (({ d with at_ := wrap64 (d.at_ + n) } : Hd) = ({ d with at_ := wrap64 (d.at_ + n) } : Hd) ∧ cs = cs) = true by simp]
      replace ox := ox.up F10
      replace hs8 := hs8.up F10
      replace G8 := G8.trans F10
      clear F10 y0 y1 y2 y3 y4 y5 y6 y7 y8 oy sr8
      obtain ⟨x0, x1, x2, x3, x4, x5, x6, x7, x8⟩ := ch_cells (h := d) (lv := .slice a cs.length cap) ox
      go_wp2_with fail
      refine (same_any d d cs cs _ _ w10 (by omega) (by omega) ⟨_, rfl, hs8⟩ ⟨_, rfl, hs8⟩).mono ?_; rintro e w11 ⟨rfl, F11⟩
      rw [show decide (d = d ∧ cs = cs) = true by simp]
      clear x0 x1 x2 x3 x4 x5 x6 x7 x8
      go_wp2
      go_ret
      exact ⟨rfl, G8.trans F11⟩
    · have hby : w.heap.size < w1.heap.size := hlt
      have oy0 := Ob.new w1 26 (chC d (.slice a cs.length cap))
      have Fa := (Fr.refl [] w1).alloc (.cells (chC d (.slice a cs.length cap)) 26)
      unfold chC at oy0 Fa
      go_wp2_with (at_builtin; refine wpList_appSq fC_lays rfl _ _ 24 rfl Try.underlying24 ceI rfl (B := w1.heap.size) (.slice none 0 0) [] rfl ⟨rfl, .inl ⟨rfl, rfl⟩⟩ _ cs rfl (hs1.up Fa) (by simp; omega) (by decide) (by simp) ?_; intro a7 c7 w7 r7 F7; rw [List.nil_append] at r7; have oy := Ob.kept oy0 F7 (by simp [Value.ownBlock]); obtain ⟨y0, y1, y2, y3, y4, y5, y6, y7, y8⟩ := ch_cells (h := d) (lv := .slice a cs.length cap) oy; have z := oy.frozen; obtain ⟨k0, k1, k2, k3, k4, k5, k6, k7, k8⟩ := ch_cells (h := d) (lv := .slice a cs.length cap) (Ob.kept (o0.up Fa) F7 (by simp [Value.ownBlock])); have hne : w.heap.size ≠ w1.heap.size := by omega)
      have ox := Ob.kept (o0.up Fa) F7 (by simp [Value.ownBlock])
      have hs7 := (hs1.up Fa).up F7
      have G7 := (G.trans Fa).trans F7
      have hn7 := row_ne r7 oy (by decide)
      have sr7 := Sq.own r7
      have o8 : Ob ((w7.setCell ⟨w1.heap.size, 8, none⟩ (.slice a7 cs.length c7)).setCell ⟨w1.heap.size, 1, none⟩ (.int .i64 (wrap64 (d.mn + n)))) w1.heap.size 26 (chC ({ d with mn := wrap64 (d.mn + n) } : Hd) (.slice a7 cs.length c7)) := by
        have := Ob.set (Ob.set oy (i := 8) (.slice a7 cs.length c7)) (i := 1) (.int .i64 (wrap64 (d.mn + n)))
        unfold chC
        exact this
      have F8 : Fr [w1.heap.size] w7 ((w7.setCell ⟨w1.heap.size, 8, none⟩ (.slice a7 cs.length c7)).setCell ⟨w1.heap.size, 1, none⟩ (.int .i64 (wrap64 (d.mn + n)))) := Fr.setCell' (Fr.setCell (b := w1.heap.size) (i := 8) (.slice a7 cs.length c7) (by simp)) (b := w1.heap.size) (i := 1) (.int .i64 (wrap64 (d.mn + n))) (by simp)
      generalize ((w7.setCell ⟨w1.heap.size, 8, none⟩ (.slice a7 cs.length c7)).setCell ⟨w1.heap.size, 1, none⟩ (.int .i64 (wrap64 (d.mn + n)))) = w8 at *
      clear x0 x1 x2 x3 x4 x5 x6 x7 x8 oy oy0 o0 hs1 G Fa F7
      have oy := o8
      clear o8
      replace ox := ox.kept F8 (by simp; omega)
      have hs8 := hs7.kept2 F8 (fun g hg hx hi => by rw [List.mem_singleton.1 hi] at hg; have := hab hx _ hg; omega)
      have sr8 := sr7.kept F8 (fun g hg hi => by rw [List.mem_singleton.1 hi] at hg; exact hn7 hg)
      have G8 := G7.own F8 (by simp; omega)
      clear F8 hs7 sr7 G7 hn7 r7
      refine (same_any d ({ d with mn := wrap64 (d.mn + n) } : Hd) cs cs _ _ w8 (by omega) (by omega) ⟨_, rfl, hs8⟩ ⟨.slice a7 cs.length c7, rfl, sr8⟩).mono ?_; rintro e w9 ⟨rfl, F9⟩
      rw [show decide (d = ({ d with mn := wrap64 (d.mn + n) } : Hd) ∧ cs = cs) = false from decide_eq_false (fun e => add_ne H0.out hn.1 hn.2 (congrArg Hd.mn e.1))]
      replace ox := ox.up F9
      replace oy := oy.up F9
      replace hs8 := hs8.up F9
      replace sr8 := sr8.up F9
      replace G8 := G8.trans F9
      clear F9
      obtain ⟨y0, y1, y2, y3, y4, y5, y6, y7, y8⟩ := ch_cells (h := ({ d with mn := wrap64 (d.mn + n) } : Hd)) (lv := .slice a7 cs.length c7) oy
      go_wp2_with fail
      refine (same_any ({ d with mn := wrap64 (d.mn + n) } : Hd) ({ d with mn := wrap64 (d.mn + n) } : Hd) cs cs _ _ w9 (by omega) (by omega) ⟨.slice a7 cs.length c7, rfl, sr8⟩ ⟨.slice a7 cs.length c7, rfl, sr8⟩).mono ?_; rintro e w10 ⟨rfl, F10⟩
      rw [show decide (({ d with mn := wrap64 (d.mn + n) } : Hd) = ({ d with mn := wrap64 (d.mn + n) } : Hd) ∧ cs = cs) = true by simp]
      replace ox := ox.up F10
      replace hs8 := hs8.up F10
      replace G8 := G8.trans F10
      clear F10 y0 y1 y2 y3 y4 y5 y6 y7 y8 oy sr8
      obtain ⟨x0, x1, x2, x3, x4, x5, x6, x7, x8⟩ := ch_cells (h := d) (lv := .slice a cs.length cap) ox
      go_wp2_with fail
      refine (same_any d d cs cs _ _ w10 (by omega) (by omega) ⟨_, rfl, hs8⟩ ⟨_, rfl, hs8⟩).mono ?_; rintro e w11 ⟨rfl, F11⟩
      rw [show decide (d = d ∧ cs = cs) = true by simp]
      clear x0 x1 x2 x3 x4 x5 x6 x7 x8
      go_wp2
      go_ret
      exact ⟨rfl, G8.trans F11⟩
    · have hby : w.heap.size < w1.heap.size := hlt
      have oy0 := Ob.new w1 26 (chC d (.slice a cs.length cap))
      have Fa := (Fr.refl [] w1).alloc (.cells (chC d (.slice a cs.length cap)) 26)
      unfold chC at oy0 Fa
      go_wp2_with (at_builtin; refine wpList_appSq fC_lays rfl _ _ 24 rfl Try.underlying24 ceI rfl (B := w1.heap.size) (.slice none 0 0) [] rfl ⟨rfl, .inl ⟨rfl, rfl⟩⟩ _ cs rfl (hs1.up Fa) (by simp; omega) (by decide) (by simp) ?_; intro a7 c7 w7 r7 F7; rw [List.nil_append] at r7; have oy := Ob.kept oy0 F7 (by simp [Value.ownBlock]); obtain ⟨y0, y1, y2, y3, y4, y5, y6, y7, y8⟩ := ch_cells (h := d) (lv := .slice a cs.length cap) oy; have z := oy.frozen; obtain ⟨k0, k1, k2, k3, k4, k5, k6, k7, k8⟩ := ch_cells (h := d) (lv := .slice a cs.length cap) (Ob.kept (o0.up Fa) F7 (by simp [Value.ownBlock])); have hne : w.heap.size ≠ w1.heap.size := by omega)
      have ox := Ob.kept (o0.up Fa) F7 (by simp [Value.ownBlock])
      have hs7 := (hs1.up Fa).up F7
      have G7 := (G.trans Fa).trans F7
      have hn7 := row_ne r7 oy (by decide)
      have sr7 := Sq.own r7
      have o8 : Ob ((w7.setCell ⟨w1.heap.size, 8, none⟩ (.slice a7 cs.length c7)).setCell ⟨w1.heap.size, 2, none⟩ (.int .i64 (wrap64 (d.ct + n)))) w1.heap.size 26 (chC ({ d with ct := wrap64 (d.ct + n) } : Hd) (.slice a7 cs.length c7)) := by
        have := Ob.set (Ob.set oy (i := 8) (.slice a7 cs.length c7)) (i := 2) (.int .i64 (wrap64 (d.ct + n)))
        unfold chC
        exact this
      have F8 : Fr [w1.heap.size] w7 ((w7.setCell ⟨w1.heap.size, 8, none⟩ (.slice a7 cs.length c7)).setCell ⟨w1.heap.size, 2, none⟩ (.int .i64 (wrap64 (d.ct + n)))) := Fr.setCell' (Fr.setCell (b := w1.heap.size) (i := 8) (.slice a7 cs.length c7) (by simp)) (b := w1.heap.size) (i := 2) (.int .i64 (wrap64 (d.ct + n))) (by simp)
      generalize ((w7.setCell ⟨w1.heap.size, 8, none⟩ (.slice a7 cs.length c7)).setCell ⟨w1.heap.size, 2, none⟩ (.int .i64 (wrap64 (d.ct + n)))) = w8 at *
      clear x0 x1 x2 x3 x4 x5 x6 x7 x8 oy oy0 o0 hs1 G Fa F7
      have oy := o8
      clear o8
      replace ox := ox.kept F8 (by simp; omega)
      have hs8 := hs7.kept2 F8 (fun g hg hx hi => by rw [List.mem_singleton.1 hi] at hg; have := hab hx _ hg; omega)
      have sr8 := sr7.kept F8 (fun g hg hi => by rw [List.mem_singleton.1 hi] at hg; exact hn7 hg)
      have G8 := G7.own F8 (by simp; omega)
      clear F8 hs7 sr7 G7 hn7 r7
      refine (same_any d ({ d with ct := wrap64 (d.ct + n) } : Hd) cs cs _ _ w8 (by omega) (by omega) ⟨_, rfl, hs8⟩ ⟨.slice a7 cs.length c7, rfl, sr8⟩).mono ?_; rintro e w9 ⟨rfl, F9⟩
      rw [show decide (d = ({ d with ct := wrap64 (d.ct + n) } : Hd) ∧ cs = cs) = false from decide_eq_false (fun e => add_ne H0.out hn.1 hn.2 (congrArg Hd.ct e.1))]
      replace ox := ox.up F9
      replace oy := oy.up F9
      replace hs8 := hs8.up F9
      replace sr8 := sr8.up F9
      replace G8 := G8.trans F9
      clear F9
      obtain ⟨y0, y1, y2, y3, y4, y5, y6, y7, y8⟩ := ch_cells (h := ({ d with ct := wrap64 (d.ct + n) } : Hd)) (lv := .slice a7 cs.length c7) oy
      go_wp2_with fail
      refine (same_any ({ d with ct := wrap64 (d.ct + n) } : Hd) ({ d with ct := wrap64 (d.ct + n) } : Hd) cs cs _ _ w9 (by omega) (by omega) ⟨.slice a7 cs.length c7, rfl, sr8⟩ ⟨.slice a7 cs.length c7, rfl, sr8⟩).mono ?_; rintro e w10 ⟨rfl, F10⟩
      rw [show decide (({ d with ct := wrap64 (d.ct + n) } : Hd) = ({ d with ct := wrap64 (d.ct + n) } : Hd) ∧ cs = cs) = true by simp]
      replace ox := ox.up F10
      replace hs8 := hs8.up F10
      replace G8 := G8.trans F10
      clear F10 y0 y1 y2 y3 y4 y5 y6 y7 y8 oy sr8
      obtain ⟨x0, x1, x2, x3, x4, x5, x6, x7, x8⟩ := ch_cells (h := d) (lv := .slice a cs.length cap) ox
      go_wp2_with fail
      refine (same_any d d cs cs _ _ w10 (by omega) (by omega) ⟨_, rfl, hs8⟩ ⟨_, rfl, hs8⟩).mono ?_; rintro e w11 ⟨rfl, F11⟩
      rw [show decide (d = d ∧ cs = cs) = true by simp]
      clear x0 x1 x2 x3 x4 x5 x6 x7 x8
      go_wp2
      go_ret
      exact ⟨rfl, G8.trans F11⟩
    · have hby : w.heap.size < w1.heap.size := hlt
      have oy0 := Ob.new w1 26 (chC d (.slice a cs.length cap))
      have Fa := (Fr.refl [] w1).alloc (.cells (chC d (.slice a cs.length cap)) 26)
      unfold chC at oy0 Fa
      go_wp2_with (at_builtin; refine wpList_appSq fC_lays rfl _ _ 24 rfl Try.underlying24 ceI rfl (B := w1.heap.size) (.slice none 0 0) [] rfl ⟨rfl, .inl ⟨rfl, rfl⟩⟩ _ cs rfl (hs1.up Fa) (by simp; omega) (by decide) (by simp) ?_; intro a7 c7 w7 r7 F7; rw [List.nil_append] at r7; have oy := Ob.kept oy0 F7 (by simp [Value.ownBlock]); obtain ⟨y0, y1, y2, y3, y4, y5, y6, y7, y8⟩ := ch_cells (h := d) (lv := .slice a cs.length cap) oy; have z := oy.frozen; obtain ⟨k0, k1, k2, k3, k4, k5, k6, k7, k8⟩ := ch_cells (h := d) (lv := .slice a cs.length cap) (Ob.kept (o0.up Fa) F7 (by simp [Value.ownBlock])); have hne : w.heap.size ≠ w1.heap.size := by omega)
      have ox := Ob.kept (o0.up Fa) F7 (by simp [Value.ownBlock])
      have hs7 := (hs1.up Fa).up F7
      have G7 := (G.trans Fa).trans F7
      have hn7 := row_ne r7 oy (by decide)
      have sr7 := Sq.own r7
      have o8 : Ob ((w7.setCell ⟨w1.heap.size, 8, none⟩ (.slice a7 cs.length c7)).setCell ⟨w1.heap.size, 3, none⟩ (.int .i64 (wrap64 (d.nx + n)))) w1.heap.size 26 (chC ({ d with nx := wrap64 (d.nx + n) } : Hd) (.slice a7 cs.length c7)) := by
        have := Ob.set (Ob.set oy (i := 8) (.slice a7 cs.length c7)) (i := 3) (.int .i64 (wrap64 (d.nx + n)))
        unfold chC
        exact this
      have F8 : Fr [w1.heap.size] w7 ((w7.setCell ⟨w1.heap.size, 8, none⟩ (.slice a7 cs.length c7)).setCell ⟨w1.heap.size, 3, none⟩ (.int .i64 (wrap64 (d.nx + n)))) := Fr.setCell' (Fr.setCell (b := w1.heap.size) (i := 8) (.slice a7 cs.length c7) (by simp)) (b := w1.heap.size) (i := 3) (.int .i64 (wrap64 (d.nx + n))) (by simp)
      generalize ((w7.setCell ⟨w1.heap.size, 8, none⟩ (.slice a7 cs.length c7)).setCell ⟨w1.heap.size, 3, none⟩ (.int .i64 (wrap64 (d.nx + n)))) = w8 at *
      clear x0 x1 x2 x3 x4 x5 x6 x7 x8 oy oy0 o0 hs1 G Fa F7
      have oy := o8
      clear o8
      replace ox := ox.kept F8 (by simp; omega)
      have hs8 := hs7.kept2 F8 (fun g hg hx hi => by rw [List.mem_singleton.1 hi] at hg; have := hab hx _ hg; omega)
      have sr8 := sr7.kept F8 (fun g hg hi => by rw [List.mem_singleton.1 hi] at hg; exact hn7 hg)
      have G8 := G7.own F8 (by simp; omega)
      clear F8 hs7 sr7 G7 hn7 r7
      refine (same_any d ({ d with nx := wrap64 (d.nx + n) } : Hd) cs cs _ _ w8 (by omega) (by omega) ⟨_, rfl, hs8⟩ ⟨.slice a7 cs.length c7, rfl, sr8⟩).mono ?_; rintro e w9 ⟨rfl, F9⟩
      rw [show decide (d = ({ d with nx := wrap64 (d.nx + n) } : Hd) ∧ cs = cs) = false from decide_eq_false (fun e => add_ne H0.out hn.1 hn.2 (congrArg Hd.nx e.1))]
      replace ox := ox.up F9
      replace oy := oy.up F9
      replace hs8 := hs8.up F9
      replace sr8 := sr8.up F9
      replace G8 := G8.trans F9
      clear F9
      obtain ⟨y0, y1, y2, y3, y4, y5, y6, y7, y8⟩ := ch_cells (h := ({ d with nx := wrap64 (d.nx + n) } : Hd)) (lv := .slice a7 cs.length c7) oy
      go_wp2_with fail
      refine (same_any ({ d with nx := wrap64 (d.nx + n) } : Hd) ({ d with nx := wrap64 (d.nx + n) } : Hd) cs cs _ _ w9 (by omega) (by omega) ⟨.slice a7 cs.length c7, rfl, sr8⟩ ⟨.slice a7 cs.length c7, rfl, sr8⟩).mono ?_; rintro e w10 ⟨rfl, F10⟩
      rw [show decide (({ d with nx := wrap64 (d.nx + n) } : Hd) = ({ d with nx := wrap64 (d.nx + n) } : Hd) ∧ cs = cs) = true by simp]
      replace ox := ox.up F10
      replace hs8 := hs8.up F10
      replace G8 := G8.trans F10
      clear F10 y0 y1 y2 y3 y4 y5 y6 y7 y8 oy sr8
      obtain ⟨x0, x1, x2, x3, x4, x5, x6, x7, x8⟩ := ch_cells (h := d) (lv := .slice a cs.length cap) ox
      go_wp2_with fail
      refine (same_any d d cs cs _ _ w10 (by omega) (by omega) ⟨_, rfl, hs8⟩ ⟨_, rfl, hs8⟩).mono ?_; rintro e w11 ⟨rfl, F11⟩
      rw [show decide (d = d ∧ cs = cs) = true by simp]
      clear x0 x1 x2 x3 x4 x5 x6 x7 x8
      go_wp2
      go_ret
      exact ⟨rfl, G8.trans F11⟩
    · have hby : w.heap.size < w1.heap.size := hlt
      have oy0 := Ob.new w1 26 (chC d (.slice a cs.length cap))
      have Fa := (Fr.refl [] w1).alloc (.cells (chC d (.slice a cs.length cap)) 26)
      unfold chC at oy0 Fa
      go_wp2_with (at_builtin; refine wpList_appSq fC_lays rfl _ _ 24 rfl Try.underlying24 ceI rfl (B := w1.heap.size) (.slice none 0 0) [] rfl ⟨rfl, .inl ⟨rfl, rfl⟩⟩ _ cs rfl (hs1.up Fa) (by simp; omega) (by decide) (by simp) ?_; intro a7 c7 w7 r7 F7; rw [List.nil_append] at r7; have oy := Ob.kept oy0 F7 (by simp [Value.ownBlock]); obtain ⟨y0, y1, y2, y3, y4, y5, y6, y7, y8⟩ := ch_cells (h := d) (lv := .slice a cs.length cap) oy; have z := oy.frozen; obtain ⟨k0, k1, k2, k3, k4, k5, k6, k7, k8⟩ := ch_cells (h := d) (lv := .slice a cs.length cap) (Ob.kept (o0.up Fa) F7 (by simp [Value.ownBlock])); have hne : w.heap.size ≠ w1.heap.size := by omega)
      have ox := Ob.kept (o0.up Fa) F7 (by simp [Value.ownBlock])
      have hs7 := (hs1.up Fa).up F7
      have G7 := (G.trans Fa).trans F7
      have hn7 := row_ne r7 oy (by decide)
      have sr7 := Sq.own r7
      have o8 : Ob ((w7.setCell ⟨w1.heap.size, 8, none⟩ (.slice a7 cs.length c7)).setCell ⟨w1.heap.size, 4, none⟩ (.int .i64 (wrap64 (d.ld + n)))) w1.heap.size 26 (chC ({ d with ld := wrap64 (d.ld + n) } : Hd) (.slice a7 cs.length c7)) := by
        have := Ob.set (Ob.set oy (i := 8) (.slice a7 cs.length c7)) (i := 4) (.int .i64 (wrap64 (d.ld + n)))
        unfold chC
        exact this
      have F8 : Fr [w1.heap.size] w7 ((w7.setCell ⟨w1.heap.size, 8, none⟩ (.slice a7 cs.length c7)).setCell ⟨w1.heap.size, 4, none⟩ (.int .i64 (wrap64 (d.ld + n)))) := Fr.setCell' (Fr.setCell (b := w1.heap.size) (i := 8) (.slice a7 cs.length c7) (by simp)) (b := w1.heap.size) (i := 4) (.int .i64 (wrap64 (d.ld + n))) (by simp)
      generalize ((w7.setCell ⟨w1.heap.size, 8, none⟩ (.slice a7 cs.length c7)).setCell ⟨w1.heap.size, 4, none⟩ (.int .i64 (wrap64 (d.ld + n)))) = w8 at *
      clear x0 x1 x2 x3 x4 x5 x6 x7 x8 oy oy0 o0 hs1 G Fa F7
      have oy := o8
      clear o8
      replace ox := ox.kept F8 (by simp; omega)
      have hs8 := hs7.kept2 F8 (fun g hg hx hi => by rw [List.mem_singleton.1 hi] at hg; have := hab hx _ hg; omega)
      have sr8 := sr7.kept F8 (fun g hg hi => by rw [List.mem_singleton.1 hi] at hg; exact hn7 hg)
      have G8 := G7.own F8 (by simp; omega)
      clear F8 hs7 sr7 G7 hn7 r7
      refine (same_any d ({ d with ld := wrap64 (d.ld + n) } : Hd) cs cs _ _ w8 (by omega) (by omega) ⟨_, rfl, hs8⟩ ⟨.slice a7 cs.length c7, rfl, sr8⟩).mono ?_; rintro e w9 ⟨rfl, F9⟩
      rw [show decide (d = ({ d with ld := wrap64 (d.ld + n) } : Hd) ∧ cs = cs) = false from decide_eq_false (fun e => add_ne H0.out hn.1 hn.2 (congrArg Hd.ld e.1))]
      replace ox := ox.up F9
      replace oy := oy.up F9
      replace hs8 := hs8.up F9
      replace sr8 := sr8.up F9
      replace G8 := G8.trans F9
      clear F9
      obtain ⟨y0, y1, y2, y3, y4, y5, y6, y7, y8⟩ := ch_cells (h := ({ d with ld := wrap64 (d.ld + n) } : Hd)) (lv := .slice a7 cs.length c7) oy
      go_wp2_with fail
      refine (same_any ({ d with ld := wrap64 (d.ld + n) } : Hd) ({ d with ld := wrap64 (d.ld + n) } : Hd) cs cs _ _ w9 (by omega) (by omega) ⟨.slice a7 cs.length c7, rfl, sr8⟩ ⟨.slice a7 cs.length c7, rfl, sr8⟩).mono ?_; rintro e w10 ⟨rfl, F10⟩
      rw [show decide (({ d with ld := wrap64 (d.ld + n) } : Hd) = ({ d with ld := wrap64 (d.ld + n) } : Hd) ∧ cs = cs) = true by simp]
      replace ox := ox.up F10
      replace hs8 := hs8.up F10
      replace G8 := G8.trans F10
      clear F10 y0 y1 y2 y3 y4 y5 y6 y7 y8 oy sr8
      obtain ⟨x0, x1, x2, x3, x4, x5, x6, x7, x8⟩ := ch_cells (h := d) (lv := .slice a cs.length cap) ox
      go_wp2_with fail
      refine (same_any d d cs cs _ _ w10 (by omega) (by omega) ⟨_, rfl, hs8⟩ ⟨_, rfl, hs8⟩).mono ?_; rintro e w11 ⟨rfl, F11⟩
      rw [show decide (d = d ∧ cs = cs) = true by simp]
      clear x0 x1 x2 x3 x4 x5 x6 x7 x8
      go_wp2
      go_ret
      exact ⟨rfl, G8.trans F11⟩
    · have hby : w.heap.size < w1.heap.size := hlt
      have oy0 := Ob.new w1 26 (chC d (.slice a cs.length cap))
      have Fa := (Fr.refl [] w1).alloc (.cells (chC d (.slice a cs.length cap)) 26)
      unfold chC at oy0 Fa
      go_wp2_with (at_builtin; refine wpList_appSq fC_lays rfl _ _ 24 rfl Try.underlying24 ceI rfl (B := w1.heap.size) (.slice none 0 0) [] rfl ⟨rfl, .inl ⟨rfl, rfl⟩⟩ _ cs rfl (hs1.up Fa) (by simp; omega) (by decide) (by simp) ?_; intro a7 c7 w7 r7 F7; rw [List.nil_append] at r7; have oy := Ob.kept oy0 F7 (by simp [Value.ownBlock]); obtain ⟨y0, y1, y2, y3, y4, y5, y6, y7, y8⟩ := ch_cells (h := d) (lv := .slice a cs.length cap) oy; have z := oy.frozen; obtain ⟨k0, k1, k2, k3, k4, k5, k6, k7, k8⟩ := ch_cells (h := d) (lv := .slice a cs.length cap) (Ob.kept (o0.up Fa) F7 (by simp [Value.ownBlock])); have hne : w.heap.size ≠ w1.heap.size := by omega)
      have ox := Ob.kept (o0.up Fa) F7 (by simp [Value.ownBlock])
      have hs7 := (hs1.up Fa).up F7
      have G7 := (G.trans Fa).trans F7
      have hn7 := row_ne r7 oy (by decide)
      have sr7 := Sq.own r7
      have o8 : Ob ((w7.setCell ⟨w1.heap.size, 8, none⟩ (.slice a7 cs.length c7)).setCell ⟨w1.heap.size, 5, none⟩ (.int .i64 (wrap64 (d.mt + n)))) w1.heap.size 26 (chC ({ d with mt := wrap64 (d.mt + n) } : Hd) (.slice a7 cs.length c7)) := by
        have := Ob.set (Ob.set oy (i := 8) (.slice a7 cs.length c7)) (i := 5) (.int .i64 (wrap64 (d.mt + n)))
        unfold chC
        exact this
      have F8 : Fr [w1.heap.size] w7 ((w7.setCell ⟨w1.heap.size, 8, none⟩ (.slice a7 cs.length c7)).setCell ⟨w1.heap.size, 5, none⟩ (.int .i64 (wrap64 (d.mt + n)))) := Fr.setCell' (Fr.setCell (b := w1.heap.size) (i := 8) (.slice a7 cs.length c7) (by simp)) (b := w1.heap.size) (i := 5) (.int .i64 (wrap64 (d.mt + n))) (by simp)
      generalize ((w7.setCell ⟨w1.heap.size, 8, none⟩ (.slice a7 cs.length c7)).setCell ⟨w1.heap.size, 5, none⟩ (.int .i64 (wrap64 (d.mt + n)))) = w8 at *
      clear x0 x1 x2 x3 x4 x5 x6 x7 x8 oy oy0 o0 hs1 G Fa F7
      have oy := o8
      clear o8
      replace ox := ox.kept F8 (by simp; omega)
      have hs8 := hs7.kept2 F8 (fun g hg hx hi => by rw [List.mem_singleton.1 hi] at hg; have := hab hx _ hg; omega)
      have sr8 := sr7.kept F8 (fun g hg hi => by rw [List.mem_singleton.1 hi] at hg; exact hn7 hg)
      have G8 := G7.own F8 (by simp; omega)
      clear F8 hs7 sr7 G7 hn7 r7
      refine (same_any d ({ d with mt := wrap64 (d.mt + n) } : Hd) cs cs _ _ w8 (by omega) (by omega) ⟨_, rfl, hs8⟩ ⟨.slice a7 cs.length c7, rfl, sr8⟩).mono ?_; rintro e w9 ⟨rfl, F9⟩
      rw [show decide (d = ({ d with mt := wrap64 (d.mt + n) } : Hd) ∧ cs = cs) = false from decide_eq_false (fun e => add_ne H0.out hn.1 hn.2 (congrArg Hd.mt e.1))]
      replace ox := ox.up F9
      replace oy := oy.up F9
      replace hs8 := hs8.up F9
      replace sr8 := sr8.up F9
      replace G8 := G8.trans F9
      clear F9
      obtain ⟨y0, y1, y2, y3, y4, y5, y6, y7, y8⟩ := ch_cells (h := ({ d with mt := wrap64 (d.mt + n) } : Hd)) (lv := .slice a7 cs.length c7) oy
      go_wp2_with fail
      refine (same_any ({ d with mt := wrap64 (d.mt + n) } : Hd) ({ d with mt := wrap64 (d.mt + n) } : Hd) cs cs _ _ w9 (by omega) (by omega) ⟨.slice a7 cs.length c7, rfl, sr8⟩ ⟨.slice a7 cs.length c7, rfl, sr8⟩).mono ?_; rintro e w10 ⟨rfl, F10⟩
      rw [show decide (({ d with mt := wrap64 (d.mt + n) } : Hd) = ({ d with mt := wrap64 (d.mt + n) } : Hd) ∧ cs = cs) = true by simp]
      replace ox := ox.up F10
      replace hs8 := hs8.up F10
      replace G8 := G8.trans F10
      clear F10 y0 y1 y2 y3 y4 y5 y6 y7 y8 oy sr8
      obtain ⟨x0, x1, x2, x3, x4, x5, x6, x7, x8⟩ := ch_cells (h := d) (lv := .slice a cs.length cap) ox
      go_wp2_with fail
      refine (same_any d d cs cs _ _ w10 (by omega) (by omega) ⟨_, rfl, hs8⟩ ⟨_, rfl, hs8⟩).mono ?_; rintro e w11 ⟨rfl, F11⟩
      rw [show decide (d = d ∧ cs = cs) = true by simp]
      clear x0 x1 x2 x3 x4 x5 x6 x7 x8
      go_wp2
      go_ret
      exact ⟨rfl, G8.trans F11⟩
    · have hby : w.heap.size < w1.heap.size := hlt
      have oy0 := Ob.new w1 26 (chC d (.slice a cs.length cap))
      have Fa := (Fr.refl [] w1).alloc (.cells (chC d (.slice a cs.length cap)) 26)
      unfold chC at oy0 Fa
      go_wp2_with (at_builtin; refine wpList_appSq fC_lays rfl _ _ 24 rfl Try.underlying24 ceI rfl (B := w1.heap.size) (.slice none 0 0) [] rfl ⟨rfl, .inl ⟨rfl, rfl⟩⟩ _ cs rfl (hs1.up Fa) (by simp; omega) (by decide) (by simp) ?_; intro a7 c7 w7 r7 F7; rw [List.nil_append] at r7; have oy := Ob.kept oy0 F7 (by simp [Value.ownBlock]); obtain ⟨y0, y1, y2, y3, y4, y5, y6, y7, y8⟩ := ch_cells (h := d) (lv := .slice a cs.length cap) oy; have z := oy.frozen; obtain ⟨k0, k1, k2, k3, k4, k5, k6, k7, k8⟩ := ch_cells (h := d) (lv := .slice a cs.length cap) (Ob.kept (o0.up Fa) F7 (by simp [Value.ownBlock])); have hne : w.heap.size ≠ w1.heap.size := by omega)
      have ox := Ob.kept (o0.up Fa) F7 (by simp [Value.ownBlock])
      have hs7 := (hs1.up Fa).up F7
      have G7 := (G.trans Fa).trans F7
      have hn7 := row_ne r7 oy (by decide)
      have sr7 := Sq.own r7
      have o8 : Ob ((w7.setCell ⟨w1.heap.size, 8, none⟩ (.slice a7 cs.length c7)).setCell ⟨w1.heap.size, 6, none⟩ (.int .i64 (wrap64 (d.rp + n)))) w1.heap.size 26 (chC ({ d with rp := wrap64 (d.rp + n) } : Hd) (.slice a7 cs.length c7)) := by
        have := Ob.set (Ob.set oy (i := 8) (.slice a7 cs.length c7)) (i := 6) (.int .i64 (wrap64 (d.rp + n)))
        unfold chC
        exact this
      have F8 : Fr [w1.heap.size] w7 ((w7.setCell ⟨w1.heap.size, 8, none⟩ (.slice a7 cs.length c7)).setCell ⟨w1.heap.size, 6, none⟩ (.int .i64 (wrap64 (d.rp + n)))) := Fr.setCell' (Fr.setCell (b := w1.heap.size) (i := 8) (.slice a7 cs.length c7) (by simp)) (b := w1.heap.size) (i := 6) (.int .i64 (wrap64 (d.rp + n))) (by simp)
      generalize ((w7.setCell ⟨w1.heap.size, 8, none⟩ (.slice a7 cs.length c7)).setCell ⟨w1.heap.size, 6, none⟩ (.int .i64 (wrap64 (d.rp + n)))) = w8 at *
      clear x0 x1 x2 x3 x4 x5 x6 x7 x8 oy oy0 o0 hs1 G Fa F7
      have oy := o8
      clear o8
      replace ox := ox.kept F8 (by simp; omega)
      have hs8 := hs7.kept2 F8 (fun g hg hx hi => by rw [List.mem_singleton.1 hi] at hg; have := hab hx _ hg; omega)
      have sr8 := sr7.kept F8 (fun g hg hi => by rw [List.mem_singleton.1 hi] at hg; exact hn7 hg)
      have G8 := G7.own F8 (by simp; omega)
      clear F8 hs7 sr7 G7 hn7 r7
      refine (same_any d ({ d with rp := wrap64 (d.rp + n) } : Hd) cs cs _ _ w8 (by omega) (by omega) ⟨_, rfl, hs8⟩ ⟨.slice a7 cs.length c7, rfl, sr8⟩).mono ?_; rintro e w9 ⟨rfl, F9⟩
      rw [show decide (d = ({ d with rp := wrap64 (d.rp + n) } : Hd) ∧ cs = cs) = false from decide_eq_false (fun e => add_ne H0.out hn.1 hn.2 (congrArg Hd.rp e.1))]
      replace ox := ox.up F9
      replace oy := oy.up F9
      replace hs8 := hs8.up F9
      replace sr8 := sr8.up F9
      replace G8 := G8.trans F9
      clear F9
      obtain ⟨y0, y1, y2, y3, y4, y5, y6, y7, y8⟩ := ch_cells (h := ({ d with rp := wrap64 (d.rp + n) } : Hd)) (lv := .slice a7 cs.length c7) oy
      go_wp2_with fail
      refine (same_any ({ d with rp := wrap64 (d.rp + n) } : Hd) ({ d with rp := wrap64 (d.rp + n) } : Hd) cs cs _ _ w9 (by omega) (by omega) ⟨.slice a7 cs.length c7, rfl, sr8⟩ ⟨.slice a7 cs.length c7, rfl, sr8⟩).mono ?_; rintro e w10 ⟨rfl, F10⟩
      rw [show decide (({ d with rp := wrap64 (d.rp + n) } : Hd) = ({ d with rp := wrap64 (d.rp + n) } : Hd) ∧ cs = cs) = true by simp]
      replace ox := ox.up F10
      replace hs8 := hs8.up F10
      replace G8 := G8.trans F10
      clear F10 y0 y1 y2 y3 y4 y5 y6 y7 y8 oy sr8
      obtain ⟨x0, x1, x2, x3, x4, x5, x6, x7, x8⟩ := ch_cells (h := d) (lv := .slice a cs.length cap) ox
      go_wp2_with fail
      refine (same_any d d cs cs _ _ w10 (by omega) (by omega) ⟨_, rfl, hs8⟩ ⟨_, rfl, hs8⟩).mono ?_; rintro e w11 ⟨rfl, F11⟩
      rw [show decide (d = d ∧ cs = cs) = true by simp]
      clear x0 x1 x2 x3 x4 x5 x6 x7 x8
      go_wp2
      go_ret
      exact ⟨rfl, G8.trans F11⟩
    · have hby : w.heap.size < w1.heap.size := hlt
      have oy0 := Ob.new w1 26 (chC d (.slice a cs.length cap))
      have Fa := (Fr.refl [] w1).alloc (.cells (chC d (.slice a cs.length cap)) 26)
      unfold chC at oy0 Fa
      go_wp2_with (at_builtin; refine wpList_appSq fC_lays rfl _ _ 24 rfl Try.underlying24 ceI rfl (B := w1.heap.size) (.slice none 0 0) [] rfl ⟨rfl, .inl ⟨rfl, rfl⟩⟩ _ cs rfl (hs1.up Fa) (by simp; omega) (by decide) (by simp) ?_; intro a7 c7 w7 r7 F7; rw [List.nil_append] at r7; have oy := Ob.kept oy0 F7 (by simp [Value.ownBlock]); obtain ⟨y0, y1, y2, y3, y4, y5, y6, y7, y8⟩ := ch_cells (h := d) (lv := .slice a cs.length cap) oy; have z := oy.frozen; obtain ⟨k0, k1, k2, k3, k4, k5, k6, k7, k8⟩ := ch_cells (h := d) (lv := .slice a cs.length cap) (Ob.kept (o0.up Fa) F7 (by simp [Value.ownBlock])); have hne : w.heap.size ≠ w1.heap.size := by omega)
      have ox := Ob.kept (o0.up Fa) F7 (by simp [Value.ownBlock])
      have hs7 := (hs1.up Fa).up F7
      have G7 := (G.trans Fa).trans F7
      have hn7 := row_ne r7 oy (by decide)
      have sr7 := Sq.own r7
      have o8 : Ob ((w7.setCell ⟨w1.heap.size, 8, none⟩ (.slice a7 cs.length c7)).setCell ⟨w1.heap.size, 7, none⟩ (.int .i64 (wrap64 (d.st + n)))) w1.heap.size 26 (chC ({ d with st := wrap64 (d.st + n) } : Hd) (.slice a7 cs.length c7)) := by
        have := Ob.set (Ob.set oy (i := 8) (.slice a7 cs.length c7)) (i := 7) (.int .i64 (wrap64 (d.st + n)))
        unfold chC
        exact this
      have F8 : Fr [w1.heap.size] w7 ((w7.setCell ⟨w1.heap.size, 8, none⟩ (.slice a7 cs.length c7)).setCell ⟨w1.heap.size, 7, none⟩ (.int .i64 (wrap64 (d.st + n)))) := Fr.setCell' (Fr.setCell (b := w1.heap.size) (i := 8) (.slice a7 cs.length c7) (by simp)) (b := w1.heap.size) (i := 7) (.int .i64 (wrap64 (d.st + n))) (by simp)
      generalize ((w7.setCell ⟨w1.heap.size, 8, none⟩ (.slice a7 cs.length c7)).setCell ⟨w1.heap.size, 7, none⟩ (.int .i64 (wrap64 (d.st + n)))) = w8 at *
      clear x0 x1 x2 x3 x4 x5 x6 x7 x8 oy oy0 o0 hs1 G Fa F7
      have oy := o8
      clear o8
      replace ox := ox.kept F8 (by simp; omega)
      have hs8 := hs7.kept2 F8 (fun g hg hx hi => by rw [List.mem_singleton.1 hi] at hg; have := hab hx _ hg; omega)
      have sr8 := sr7.kept F8 (fun g hg hi => by rw [List.mem_singleton.1 hi] at hg; exact hn7 hg)
      have G8 := G7.own F8 (by simp; omega)
      clear F8 hs7 sr7 G7 hn7 r7
      refine (same_any d ({ d with st := wrap64 (d.st + n) } : Hd) cs cs _ _ w8 (by omega) (by omega) ⟨_, rfl, hs8⟩ ⟨.slice a7 cs.length c7, rfl, sr8⟩).mono ?_; rintro e w9 ⟨rfl, F9⟩
      rw [show decide (d = ({ d with st := wrap64 (d.st + n) } : Hd) ∧ cs = cs) = false from decide_eq_false (fun e => add_ne H0.out hn.1 hn.2 (congrArg Hd.st e.1))]
      replace ox := ox.up F9
      replace oy := oy.up F9
      replace hs8 := hs8.up F9
      replace sr8 := sr8.up F9
      replace G8 := G8.trans F9
      clear F9
      obtain ⟨y0, y1, y2, y3, y4, y5, y6, y7, y8⟩ := ch_cells (h := ({ d with st := wrap64 (d.st + n) } : Hd)) (lv := .slice a7 cs.length c7) oy
      go_wp2_with fail
      refine (same_any ({ d with st := wrap64 (d.st + n) } : Hd) ({ d with st := wrap64 (d.st + n) } : Hd) cs cs _ _ w9 (by omega) (by omega) ⟨.slice a7 cs.length c7, rfl, sr8⟩ ⟨.slice a7 cs.length c7, rfl, sr8⟩).mono ?_; rintro e w10 ⟨rfl, F10⟩
      rw [show decide (({ d with st := wrap64 (d.st + n) } : Hd) = ({ d with st := wrap64 (d.st + n) } : Hd) ∧ cs = cs) = true by simp]
      replace ox := ox.up F10
      replace hs8 := hs8.up F10
      replace G8 := G8.trans F10
      clear F10 y0 y1 y2 y3 y4 y5 y6 y7 y8 oy sr8
      obtain ⟨x0, x1, x2, x3, x4, x5, x6, x7, x8⟩ := ch_cells (h := d) (lv := .slice a cs.length cap) ox
      go_wp2_with fail
      refine (same_any d d cs cs _ _ w10 (by omega) (by omega) ⟨_, rfl, hs8⟩ ⟨_, rfl, hs8⟩).mono ?_; rintro e w11 ⟨rfl, F11⟩
      rw [show decide (d = d ∧ cs = cs) = true by simp]
      clear x0 x1 x2 x3 x4 x5 x6 x7 x8
      go_wp2
      go_ret
      exact ⟨rfl, G8.trans F11⟩
    · by_cases hz : cs.length = 0
      · have hz' := Lib.hid hz
        have g3 : ((cs.length : Int) == 0) = true := by rw [hz]; rfl
        clear hz
        obtain ⟨i0, ih0, hz0, hz1, hz2⟩ := info_parts ceI
        have hby : w.heap.size < w1.heap.size := hlt
        have oy0 := Ob.new w1 26 (chC d (.slice a cs.length cap))
        have Fa := (Fr.refl [] w1).alloc (.cells (chC d (.slice a cs.length cap)) 26)
        unfold chC at oy0 Fa
        go_wp2_with (first | (at_builtin; refine wpList_appSq fC_lays rfl _ _ 24 rfl Try.underlying24 ceI rfl (B := w1.heap.size) (.slice none 0 0) [] rfl ⟨rfl, .inl ⟨rfl, rfl⟩⟩ _ cs rfl (hs1.up Fa) (by simp; omega) (by decide) (by simp) ?_; intro a7 c7 w7 r7 F7; rw [List.nil_append] at r7; have oy := Ob.kept oy0 F7 (by simp [Value.ownBlock]); obtain ⟨y0, y1, y2, y3, y4, y5, y6, y7, y8⟩ := ch_cells (h := d) (lv := .slice a cs.length cap) oy; have z := oy.frozen; obtain ⟨k0, k1, k2, k3, k4, k5, k6, k7, k8⟩ := ch_cells (h := d) (lv := .slice a cs.length cap) (Ob.kept (o0.up Fa) F7 (by simp [Value.ownBlock])); have hne : w.heap.size ≠ w1.heap.size := by omega) | (at_make; refine wpList_make_full _ rfl _ _ 24 rfl 0 29 i0 (.agg #[.int .i64 0, .int .i64 0, .int .i64 0]) 3 Try.underlying24 ih0 hz0 hz1 _ _ _ _ 1 rfl rfl rfl rfl (by rw [hz2]; decide) (by simp [maxLen]) (Nat.zero_le _) ?_; intro wm hown hg; have oy8 := Ob.up (Ob.set oy (i := 8) (.slice a7 cs.length c7)) (Fr.grown hg); have lx8 := (Ob.kept (o0.up Fa) F7 (by simp [Value.ownBlock])).lt; obtain ⟨y0, y1, y2, y3, y4, y5, y6, y7, y8⟩ := ch_cells (h := d) (lv := .slice a7 cs.length c7) oy8; have z := oy8.frozen; obtain ⟨k0, k1, k2, k3, k4, k5, k6, k7, k8⟩ := ch_cells (h := d) (lv := .slice a cs.length cap) (Ob.up (Ob.other (Ob.kept (o0.up Fa) F7 (by simp [Value.ownBlock])) hne (i := 8) (.slice a7 cs.length c7)) (Fr.grown hg))))
        have ox := Ob.kept (o0.up Fa) F7 (by simp [Value.ownBlock])
        have hs7 := (hs1.up Fa).up F7
        have G7 := (G.trans Fa).trans F7
        have hn7 := row_ne r7 oy (by decide)
        have sr7 := Sq.own r7
        have F8 : Fr [w1.heap.size] w7 (wm.setCell ⟨w1.heap.size, 8, none⟩ (.slice (some ⟨w7.heap.size, 0, none⟩) 1 1)) := Fr.setCell' (Fr.then (Fr.setCell (b := w1.heap.size) (i := 8) (.slice a7 cs.length c7) (by simp)) (Fr.grown hg)) (b := w1.heap.size) (i := 8) (.slice (some ⟨w7.heap.size, 0, none⟩) 1 1) (by simp)
        have o8 : Ob (wm.setCell ⟨w1.heap.size, 8, none⟩ (.slice (some ⟨w7.heap.size, 0, none⟩) 1 1)) w1.heap.size 26 (chC d (.slice (some ⟨w7.heap.size, 0, none⟩) 1 1)) := by
          have := Ob.set oy8 (i := 8) (.slice (some ⟨w7.heap.size, 0, none⟩) 1 1)
          unfold chC
          exact this
        have hly := oy.lt
        rw [show (w7.setCell ⟨w1.heap.size, 8, none⟩ (.slice a7 cs.length c7)).heap.size = w7.heap.size by simp] at hown
        have sr9 : Sq fC wm (.slice (some ⟨w7.heap.size, 0, none⟩) 1 1) [⟨0, 0, 0⟩] := Sq.own (xs := ([⟨0, 0, 0⟩] : List Ce)) (B := 0) (E := 29) (sz := 3) (by rw [made3] at hown; exact hown)
        have sr8 := sr9.kept (Fr.setCell (S := [w1.heap.size]) (b := w1.heap.size) (i := 8) (.slice (some ⟨w7.heap.size, 0, none⟩) 1 1) (by simp)) (fun g hg hi => by rw [List.mem_singleton.1 hi] at hg; simp [Value.ownBlock] at hg; omega)
        clear sr9 hown hg oy8 i0 ih0 hz0 hz1 hz2
        generalize (wm.setCell ⟨w1.heap.size, 8, none⟩ (.slice (some ⟨w7.heap.size, 0, none⟩) 1 1)) = w8 at *
        clear x0 x1 x2 x3 x4 x5 x6 x7 x8 y0 y1 y2 y3 y4 y5 y6 y7 y8 k0 k1 k2 k3 k4 k5 k6 k7 k8 z oy oy0 o0 hs1 G Fa F7
        have oy := o8
        clear o8
        replace ox := ox.kept F8 (by simp; omega)
        have hs8 := hs7.kept2 F8 (fun g hg hx hi => by rw [List.mem_singleton.1 hi] at hg; have := hab hx _ hg; omega)
        have G8 := G7.own F8 (by simp; omega)
        clear F8 hs7 sr7 G7 hn7 r7
        refine (same_any d d cs ([⟨0, 0, 0⟩] : List Ce) _ _ w8 (by omega) (by decide) ⟨_, rfl, hs8⟩ ⟨.slice (some ⟨w7.heap.size, 0, none⟩) 1 1, rfl, sr8⟩).mono ?_; rintro e w9 ⟨rfl, F9⟩
        rw [show decide (d = d ∧ cs = ([⟨0, 0, 0⟩] : List Ce)) = false from decide_eq_false (fun e => by have h1 := congrArg List.length e.2; rw [hz'.out] at h1; simp at h1)]
        replace ox := ox.up F9
        replace oy := oy.up F9
        replace hs8 := hs8.up F9
        replace sr8 := sr8.up F9
        replace G8 := G8.trans F9
        clear F9
        obtain ⟨y0, y1, y2, y3, y4, y5, y6, y7, y8⟩ := ch_cells (h := d) (lv := .slice (some ⟨w7.heap.size, 0, none⟩) 1 1) oy
        go_wp2_with fail
        refine (same_any d d ([⟨0, 0, 0⟩] : List Ce) ([⟨0, 0, 0⟩] : List Ce) _ _ w9 (by decide) (by decide) ⟨.slice (some ⟨w7.heap.size, 0, none⟩) 1 1, rfl, sr8⟩ ⟨.slice (some ⟨w7.heap.size, 0, none⟩) 1 1, rfl, sr8⟩).mono ?_; rintro e w10 ⟨rfl, F10⟩
        rw [show decide (d = d ∧ ([⟨0, 0, 0⟩] : List Ce) = ([⟨0, 0, 0⟩] : List Ce)) = true by simp]
        replace ox := ox.up F10
        replace hs8 := hs8.up F10
        replace G8 := G8.trans F10
        clear F10 y0 y1 y2 y3 y4 y5 y6 y7 y8 oy sr8
        obtain ⟨x0, x1, x2, x3, x4, x5, x6, x7, x8⟩ := ch_cells (h := d) (lv := .slice a cs.length cap) ox
        go_wp2_with fail
        refine (same_any d d cs cs _ _ w10 (by omega) (by omega) ⟨_, rfl, hs8⟩ ⟨_, rfl, hs8⟩).mono ?_; rintro e w11 ⟨rfl, F11⟩
        rw [show decide (d = d ∧ cs = cs) = true by simp]
        clear x0 x1 x2 x3 x4 x5 x6 x7 x8
        go_wp2
        go_ret
        exact ⟨rfl, G8.trans F11⟩
      · have g3 : ((cs.length : Int) == 0) = false := by simpa using hz
        have hpos : 0 < cs.length := by omega
        have hby : w.heap.size < w1.heap.size := hlt
        have oy0 := Ob.new w1 26 (chC d (.slice a cs.length cap))
        have Fa := (Fr.refl [] w1).alloc (.cells (chC d (.slice a cs.length cap)) 26)
        unfold chC at oy0 Fa
        go_wp2_with (at_builtin; refine wpList_appSq fC_lays rfl _ _ 24 rfl Try.underlying24 ceI rfl (B := w1.heap.size) (.slice none 0 0) [] rfl ⟨rfl, .inl ⟨rfl, rfl⟩⟩ _ cs rfl (hs1.up Fa) (by simp; omega) (by decide) (by simp) ?_; intro a7 c7 w7 r7 F7; rw [List.nil_append] at r7; have oy := Ob.kept oy0 F7 (by simp [Value.ownBlock]); obtain ⟨y0, y1, y2, y3, y4, y5, y6, y7, y8⟩ := ch_cells (h := d) (lv := .slice a cs.length cap) oy; have z := oy.frozen; obtain ⟨k0, k1, k2, k3, k4, k5, k6, k7, k8⟩ := ch_cells (h := d) (lv := .slice a cs.length cap) (Ob.kept (o0.up Fa) F7 (by simp [Value.ownBlock])); have hne : w.heap.size ≠ w1.heap.size := by omega)
        have ox := Ob.kept (o0.up Fa) F7 (by simp [Value.ownBlock])
        have hs7 := (hs1.up Fa).up F7
        have G7 := (G.trans Fa).trans F7
        have hn7 := row_ne r7 oy (by decide)
        have sr7 := Sq.own r7
        have F8 : Fr [w1.heap.size] w7 (w7.setCell ⟨w1.heap.size, 8, none⟩ (.slice a7 cs.length c7)) := Fr.setCell (b := w1.heap.size) (i := 8) (.slice a7 cs.length c7) (by simp)
        have o8 : Ob (w7.setCell ⟨w1.heap.size, 8, none⟩ (.slice a7 cs.length c7)) w1.heap.size 26 (chC d (.slice a7 cs.length c7)) := by
          have := Ob.set oy (i := 8) (.slice a7 cs.length c7)
          unfold chC
          exact this
        have r8 := row_fr r7 F8 (fun g hg hi => by rw [List.mem_singleton.1 hi] at hg; exact hn7 (by simp [hg]))
        generalize (w7.setCell ⟨w1.heap.size, 8, none⟩ (.slice a7 cs.length c7)) = w5 at *
        clear x0 x1 x2 x3 x4 x5 x6 x7 x8 y0 y1 y2 y3 y4 y5 y6 y7 y8 k0 k1 k2 k3 k4 k5 k6 k7 k8 z oy oy0 o0 hs1 G Fa F7
        obtain ⟨m, hm⟩ : ∃ m : Nat, k % (cs.length : Int) = m := ⟨(k % (cs.length : Int)).toNat, by have := Int.emod_nonneg k (show (cs.length : Int) ≠ 0 by omega); omega⟩
        have hml : m < cs.length := by have := Int.emod_lt_of_pos k (show (0 : Int) < cs.length by omega); omega
        rw [hm]
        have HM := Lib.hid hm
        clear hm
        obtain ⟨x, hx⟩ : ∃ x, cs[m]? = some x := ⟨cs[m], List.getElem?_eq_getElem hml⟩
        have sr5 := Sq.own r8
        have hr8 := r8.2
        rcases hr8 with ⟨e1, -⟩ | ⟨g, cap2, cur, e1, hg1, hh, hc1, hc2, hsz, -⟩
        · simp only [Value.slice.injEq] at e1
          omega
        simp only [Value.slice.injEq] at e1
        obtain ⟨rfl, -, rfl⟩ := e1
        obtain ⟨g', off', e', -, -, d2⟩ := ce_cells sr5 hx
        simp only [Option.some.injEq, Addr.mk.injEq] at e'
        obtain ⟨rfl, rfl, -⟩ := e'
        rw [Nat.zero_add] at d2
        have HX := Lib.hid hx
        have hgy : g ≠ w1.heap.size := by intro e; exact hn7 (by simp [Value.ownBlock, e])
        have hgy' : w1.heap.size ≠ g := fun e => hgy e.symm
        have zg : ∀ i, w5.frozen? ⟨g, i, none⟩ = false := fun i => frozen_of_row _ _ _ _ _ hh
        clear hx
        refine wp_region_free (by kernel_rfl) ?_
        refine any_envL [] w5 #[true, true, true, true, true, true, true, true, true, true, true, false, false, false] 11 3 rfl ?_
        refine envL_pass [true, true, true, true, true, true, true, true, true, true, true, false, false, false] 0 (n := 121) (listed' := #[true, true, true, true, true, true, true, true, true, true, true, false, false, false]) rfl (by kernel_rfl) (by kernel_rfl) (by kernel_rfl) (by kernel_rfl) rfl (by kernel_rfl) (fun _ _ d _ _ h => by cases d <;> exact h) ((Fr.refl _ w5).drew) ?_
        apply Exists.intro
        refine ⟨fun wf Ff => ?_, ?_⟩
        · obtain ⟨-, -, -, -, -, -, -, -, y8⟩ := ch_cells (o8.up Ff)
          have q8 := In.cell y8
          have q2 := In.cell (Ff.cell d2 (by simp))
          clear y8
          simp only [sel]
          repeat (go_big_quiet_step (fail))
          exact wpQuiet_nil rfl
        refine envL_tail (k := 11) rfl (by kernel_rfl) (fun w6 F6 => ?_)
        have E6 := (Fr.refl [] w5).drew.trans F6
        clear F6
        replace o8 := o8.up E6
        replace sr5 := sr5.up E6
        have hh6 := E6.heap hh (by simp)
        have zg : ∀ i, w6.frozen? ⟨g, i, none⟩ = false := fun i => frozen_of_row _ _ _ _ _ hh6
        replace d2 := E6.cell d2 (by simp)
        clear hh
        replace ox := (ox.kept F8 (by simp; omega)).up E6
        have hs6 := (hs7.kept2 F8 (fun g hg hx hi => by rw [List.mem_singleton.1 hi] at hg; have := hab hx _ hg; omega)).up E6
        have G6 := (G7.own F8 (by simp; omega)).trans E6
        clear F8 hs7 sr7 G7 hn7 r7 r8 E6
        obtain ⟨x0, x1, x2, x3, x4, x5, x6, x7, x8⟩ := ch_cells (h := d) (lv := .slice a cs.length cap) ox
        obtain ⟨y0, y1, y2, y3, y4, y5, y6, y7, y8⟩ := ch_cells (h := d) (lv := .slice (some ⟨g, 0, none⟩) cs.length c7) o8
        have hgx : w.heap.size ≠ g := by omega
        go_wp2_with fail
        have F9 : Fr [g] w6 (w6.setCell ⟨g, m * 3 + 2, none⟩ (.int .i64 (wrap64 (x.d + n)))) := Fr.setCell (b := g) _ (by simp)
        have sr8 := sq_set sr5 hh6 HX.out (wrap64 (x.d + n))
        generalize (w6.setCell ⟨g, m * 3 + 2, none⟩ (.int .i64 (wrap64 (x.d + n)))) = w8 at *
        clear x0 x1 x2 x3 x4 x5 x6 x7 x8 y0 y1 y2 y3 y4 y5 y6 y7 y8 zg d2 hh6
        have oy := o8.kept F9 (by simpa using hgy')
        clear o8
        replace ox := ox.kept F9 (by simpa using hgx)
        have hs8 := hs6.kept2 F9 (fun k hk hx hi => by rw [List.mem_singleton.1 hi] at hk; have := hab hx _ hk; omega)
        have G8 := G6.own F9 (by simp; omega)
        clear F9 hs6 G6 sr5
        refine (same_any d d cs (cs.set m { x with d := wrap64 (x.d + n) }) _ _ w8 (by omega) (by simp; omega) ⟨_, rfl, hs8⟩ ⟨.slice (some ⟨g, 0, none⟩) cs.length c7, rfl, sr8⟩).mono ?_; rintro e w9 ⟨rfl, F9⟩
        rw [show decide (d = d ∧ cs = (cs.set m { x with d := wrap64 (x.d + n) })) = false from decide_eq_false (fun e => by have h1 := congrArg (fun l => l[m]?) e.2; simp only [List.getElem?_set_self hml, HX.out, Option.some.injEq] at h1; exact add_ne H0.out hn.1 hn.2 (congrArg Ce.d h1))]
        replace ox := ox.up F9
        replace oy := oy.up F9
        replace hs8 := hs8.up F9
        replace sr8 := sr8.up F9
        replace G8 := G8.trans F9
        clear F9
        obtain ⟨y0, y1, y2, y3, y4, y5, y6, y7, y8⟩ := ch_cells (h := d) (lv := .slice (some ⟨g, 0, none⟩) cs.length c7) oy
        go_wp2_with fail
        refine (same_any d d (cs.set m { x with d := wrap64 (x.d + n) }) (cs.set m { x with d := wrap64 (x.d + n) }) _ _ w9 (by simp; omega) (by simp; omega) ⟨.slice (some ⟨g, 0, none⟩) cs.length c7, rfl, sr8⟩ ⟨.slice (some ⟨g, 0, none⟩) cs.length c7, rfl, sr8⟩).mono ?_; rintro e w10 ⟨rfl, F10⟩
        rw [show decide (d = d ∧ (cs.set m { x with d := wrap64 (x.d + n) }) = (cs.set m { x with d := wrap64 (x.d + n) })) = true by simp]
        replace ox := ox.up F10
        replace hs8 := hs8.up F10
        replace G8 := G8.trans F10
        clear F10 y0 y1 y2 y3 y4 y5 y6 y7 y8 oy sr8
        obtain ⟨x0, x1, x2, x3, x4, x5, x6, x7, x8⟩ := ch_cells (h := d) (lv := .slice a cs.length cap) ox
        go_wp2_with fail
        refine (same_any d d cs cs _ _ w10 (by omega) (by omega) ⟨_, rfl, hs8⟩ ⟨_, rfl, hs8⟩).mono ?_; rintro e w11 ⟨rfl, F11⟩
        rw [show decide (d = d ∧ cs = cs) = true by simp]
        clear x0 x1 x2 x3 x4 x5 x6 x7 x8
        go_wp2
        go_ret
        exact ⟨rfl, G8.trans F11⟩
  · have g1 : decide ((cs.length : Int) > 16) = true := by simp; omega
    go_wp2
    go_ret
    exact ⟨rfl, G⟩
open Go.ChangeShapes Go.WideShapes Go.ChangeAt Go.Deep in
set_option maxRecDepth 100000 in
theorem unlike_open {H : Type} {enc : TypeId × Value → H} {r : Reach} {b0 : Nat} {v : Value} {d : DataW H} {p : List MemPlace} (k n : Int) (W : World) (hv : Value.okWide Try.prog W r b0 26 v) (h : DataW.Trod enc Try.prog W 0 (fun _ => true) true 26 v d p) (hk : 0 ≤ k ∧ k < 256) (hn : -9223372036854775808 ≤ n ∧ n ≤ 9223372036854775807) :
    Calls Try.prog 4 #[v, .int .u8 k, .int .i64 n] W fun e w' => e = .returned (.bool true) ∧ Fr [] W w' := by
  obtain ⟨hd, cs, hc⟩ := open_chunk hv h
  exact unlike_true hd cs v k n W hc hk hn
end Go.Proofs.Ytkdnppehlnmlgaa.Vw
