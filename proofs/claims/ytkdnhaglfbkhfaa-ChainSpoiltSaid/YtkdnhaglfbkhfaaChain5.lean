/- Package chain: whether a chunk and its keys stand ahead of the chunk behind it. -/
import Derived.Test.YtkdnhaglfbkhfaaChain4
namespace Go.Proofs.Ytkdnhaglfbkhfaa.Ch
open Go.RowKit Go.Proofs.Ytkdnhaglfbkhfaa.Ar Go.Proofs.Ytkdnhaglfbkhfaa.Mx Go.Proofs.Ytkdnhaglfbkhfaa.Vw
set_option linter.unusedVariables false
set_option linter.unusedSimpArgs false
/-- Does it stand, with its items, ahead of a chunk of this least key? -/
def stB (mn : Int) (its : List It) (nx : Option Int) : Bool := nx.all (fun m => decide (mn < m)) && its.all fun it => decide (mn ≤ it.k) && nx.all (fun m => decide (it.k < m))
theorem stB_stands (x : Hd × List Ce) (r : List (Hd × List Ce)) : stB x.1.mn (itemsC x.2) (r.head?.map (fun y => y.1.mn)) = standsB x r := by
  unfold stB standsB
  cases r with
  | nil => simp
  | cons y r => simp
def StAt (w : World) (its : List It) (P : It → Bool) (x : Value) (wr : World) : Prop := ∃ i, i ≤ its.length ∧ x = .int .i64 (i : Nat) ∧ Fr [] w wr ∧ ∀ j y, j < i → its[j]? = some y → P y = true
theorem all_get {α : Type} {l : List α} {P : α → Bool} (h : ∀ (j : Nat) y, j < l.length → l[j]? = some y → P y = true) : l.all P = true := by
  rw [List.all_eq_true]; intro y hy
  obtain ⟨j, hj⟩ := List.mem_iff_getElem?.1 hy
  exact h j y (List.getElem?_eq_some_iff.1 hj).1 hj
theorem all_not {α : Type} {l : List α} {P : α → Bool} {j : Nat} {y : α} (hj : l[j]? = some y) (h : P y = false) : l.all P = false := by
  rw [List.all_eq_false]; exact ⟨y, List.mem_of_getElem? hj, by simp [h]⟩
set_option maxRecDepth 100000 in
set_option maxHeartbeats 6400000 in
theorem stands_nil (h : Hd) (cs : List Ce) (v : Value) (a : Option Addr) (cap : Nat) (w : World) (hl : cs.length ≤ 1000) (hv : ChIs w v h cs) :
    Calls Try.prog 26 #[v, .slice a 0 cap] w fun e w' => e = .returned (.bool (stB h.mn (itemsC cs) none)) ∧ Fr [] w w' := by
  obtain ⟨lv, rfl, hs⟩ := hv
  have HI := Lib.hid (show ∀ wr, Fr [] w wr → Calls Try.prog 37 #[chV h lv] wr fun e w' => (∃ u, e = .returned u ∧ w'.ownsRow wr.heap.size 73 3 u (itemsC cs).length ((itemsC cs).flatMap fT)) ∧ Fr [] wr w' from fun wr F => items_any h cs _ wr hl ⟨lv, rfl, hs.up F⟩)
  have o0 := Ob.new w 63 (chC h lv)
  have F0 := (Fr.refl [] w).alloc (.cells (chC h lv) 63)
  obtain ⟨x0, x1, x2, x3, x4, x5, x6, x7, x8⟩ := ch_cells o0
  have hil := itemsC_length cs
  generalize itemsC cs = its at *
  clear hs
  unfold chV chC at *
  have hst : stB h.mn its none = its.all (fun it => decide (h.mn ≤ it.k)) := by unfold stB; simp
  rw [hst]
  have HST := Lib.hid hst
  clear hst
  go_enter Try.func26, Try.ntmps26
  go_wp2_with fail
  have k1 := In.cell x1
  clear x0 x1 x2 x3 x4 x5 x6 x7 x8
  refine wp_region_in (by kernel_rfl) (by kernel_rfl) ?_
  repeat (go_big_quiet_step (fail))
  refine wpQuiet_nil ?_
  intro w1 F1
  have o1 := o0.up F1
  have FW := F0.trans F1
  obtain ⟨x0, x1, x2, x3, x4, x5, x6, x7, x8⟩ := ch_cells (lv := lv) (h := h) o1
  clear o0 F0 F1 k1
  go_wp2_with fail
  refine (HI.out _ FW).mono ?_; rintro e w2 ⟨⟨u, rfl, hr⟩, F2⟩
  have hs := Lib.hid (Sq.own hr)
  obtain ⟨a', cap', rfl, -, -⟩ := row_cell hr
  have FX := Lib.hid (FW.trans F2)
  have o2 := o1.up F2
  clear HI hr F2 FW o1 x0 x1 x2 x3 x4 x5 x6 x7 x8
  go_wp2_with fail
  go_loopw [22] (fun u wr => StAt w2 its (fun it : It => decide (h.mn ≤ it.k)) u wr) (fun u _ => its.length - (RowKit.intOf u).toNat)
  case atStart => exact ⟨0, by omega, rfl, Fr.refl _ _, by omega⟩
  case round =>
    obtain ⟨i, hi, rfl, F, hP⟩ := hrel
    by_cases hlt : i < its.length
    · obtain ⟨x, hx⟩ : ∃ x, its[i]? = some x := ⟨its[i], List.getElem?_eq_getElem hlt⟩
      obtain ⟨g2, off2, rfl, e0, e1, e2⟩ := it_cells (hs.out.up F) hx
      have HX := Lib.hid (And.intro hx hP)
      clear hx hP
      have F5 := (Fr.refl [] wr).alloc (.cells #[.int .i64 x.k, .int .i64 x.v, .int .i64 x.d] 73)
      have o5 := Ob.new wr 73 #[.int .i64 x.k, .int .i64 x.v, .int .i64 x.d]
      obtain ⟨x0, x1, x2, x3, x4, x5, x6, x7, x8⟩ := ch_cells (lv := lv) (h := h) ((o2.up F).up F5)
      clear x0 x2 x3 x4 x5 x6 x7 x8
      go_wp2_with fail
      generalize (wr.alloc (.cells #[.int .i64 x.k, .int .i64 x.v, .int .i64 x.d] 73)) = w5 at *
      have j0 := In.cell (o5.cell (i := 0) rfl)
      have k1 := In.cell x1
      clear o5 e0 e1 e2 x1
      by_cases q1 : x.k < h.mn
      · have g1 : decide (x.k < h.mn) = true := by simpa using q1
        have HQ := Lib.hid q1
        clear q1
        refine wp_region_in (by kernel_rfl) (by kernel_rfl) ?_
        repeat (go_big_quiet_step (fail))
        refine wpQuiet_nil ?_
        intro w6 F6
        have F9 := Lib.hid (F.trans (F5.trans F6))
        clear F5 F6 F k1 j0
        go_wp2_with fail
        go_ret
        exact ⟨by rw [all_not HX.out.1 (by have := HQ.out; simp; omega)]; rfl, FX.out.trans F9.out⟩
      · have g1 : decide (x.k < h.mn) = false := by simpa using q1
        have HQ := Lib.hid q1
        clear q1
        refine wp_region_in (by kernel_rfl) (by kernel_rfl) ?_
        repeat (go_big_quiet_step (fail))
        refine wpQuiet_nil ?_
        intro w6 F6
        have F9 := Lib.hid (F.trans (F5.trans F6))
        clear F5 F6 F k1 j0
        go_wp2_with fail
        go_roundw
        case rel => exact ⟨i + 1, by omega, by go_num, F9.out, fun j z hj hz => by
          by_cases e : j = i
          · subst e; rw [HX.out.1] at hz; cases hz; have := HQ.out; simp; omega
          · exact HX.out.2 j z (by omega) hz⟩
        case measure => simp [RowKit.intOf]; omega
    · obtain rfl : i = its.length := by omega
      have HP := Lib.hid (all_get hP)
      have FX2 := Lib.hid (FX.out.trans F)
      clear hP F
      go_wp2
      go_ret
      exact ⟨by rw [HP.out]; rfl, FX2.out⟩
set_option maxRecDepth 100000 in
set_option maxHeartbeats 6400000 in
theorem stands_cons (h : Hd) (cs : List Ce) (v : Value) (y : Kr) (ys : List Kr) (bv : Value) (w : World) (hl : cs.length ≤ 1000) (hv : ChIs w v h cs) (hb : Sq fK w bv (y :: ys)) (hyl : ys.length ≤ 100000) :
    Calls Try.prog 26 #[v, bv] w fun e w' => e = .returned (.bool (stB h.mn (itemsC cs) (some y.hd.mn))) ∧ Fr [] w w' := by
  obtain ⟨lv, rfl, hs⟩ := hv
  have HI := Lib.hid (show ∀ wr, Fr [] w wr → Calls Try.prog 37 #[chV h lv] wr fun e w' => (∃ u, e = .returned u ∧ w'.ownsRow wr.heap.size 73 3 u (itemsC cs).length ((itemsC cs).flatMap fT)) ∧ Fr [] wr w' from fun wr F => items_any h cs _ wr hl ⟨lv, rfl, hs.up F⟩)
  have o0 := Ob.new w 63 (chC h lv)
  have F0 := (Fr.refl [] w).alloc (.cells (chC h lv) 63)
  obtain ⟨x0, x1, x2, x3, x4, x5, x6, x7, x8⟩ := ch_cells o0
  have hil := itemsC_length cs
  generalize itemsC cs = its at *
  clear hs
  unfold chV chC at *
  obtain ⟨a, cap, rfl, hcap, hmax, -⟩ := id hb
  obtain ⟨g, off, rfl, -, d1, -⟩ := kr_cells (hb.up F0) (i := 0) (x := y) rfl
  rw [Nat.zero_mul, Nat.add_zero] at d1
  have hlen : (y :: ys).length = ys.length + 1 := rfl
  rw [hlen] at hb hcap ⊢
  have gl : decide (((ys.length + 1 : Nat) : Int) > 0) = true := by simp
  have HB := Lib.hid hb
  clear hb hlen
  go_enter Try.func26, Try.ntmps26
  go_wp2_with fail
  have k1 := In.cell x1
  have k9 := In.cell d1
  clear x0 x1 x2 x3 x4 x5 x6 x7 x8 d1
  by_cases q0 : y.hd.mn ≤ h.mn
  · have g0 : decide (h.mn ≥ y.hd.mn) = true := by simpa using q0
    have HQ := Lib.hid q0
    clear q0
    refine wp_region_in (by kernel_rfl) (by kernel_rfl) ?_
    repeat (go_big_quiet_step (fail))
    refine wpQuiet_nil ?_
    intro w1 F1
    clear k9 k1
    go_wp2_with fail
    go_ret
    exact ⟨by unfold stB; have := HQ.out; simp; omega, F0.trans F1⟩
  · have g0 : decide (h.mn ≥ y.hd.mn) = false := by simpa using q0
    have HST := Lib.hid (show stB h.mn its (some y.hd.mn) = its.all (fun it => decide (h.mn ≤ it.k) && decide (it.k < y.hd.mn)) by unfold stB; simp; intro; omega)
    clear q0
    refine wp_region_in (by kernel_rfl) (by kernel_rfl) ?_
    repeat (go_big_quiet_step (fail))
    refine wpQuiet_nil ?_
    intro w1 F1
    clear k9
    have o1 := o0.up F1
    have FW := F0.trans F1
    obtain ⟨x0, x1, x2, x3, x4, x5, x6, x7, x8⟩ := ch_cells (lv := lv) (h := h) o1
    clear o0 F0 F1 k1
    go_wp2_with fail
    refine (HI.out _ FW).mono ?_; rintro e w2 ⟨⟨u, rfl, hr⟩, F2⟩
    have hs := Lib.hid (Sq.own hr)
    obtain ⟨a', cap', rfl, -, -⟩ := row_cell hr
    have FX := Lib.hid (FW.trans F2)
    have o2 := o1.up F2
    have HB2 := Lib.hid (HB.out.up FX.out)
    clear HI HB hr F2 FW o1 x0 x1 x2 x3 x4 x5 x6 x7 x8
    go_wp2_with fail
    go_loopw [22] (fun u wr => StAt w2 its (fun it : It => decide (h.mn ≤ it.k) && decide (it.k < y.hd.mn)) u wr) (fun u _ => its.length - (RowKit.intOf u).toNat)
    case atStart => exact ⟨0, by omega, rfl, Fr.refl _ _, by omega⟩
    case round =>
      obtain ⟨i, hi, rfl, F, hP⟩ := hrel
      by_cases hlt : i < its.length
      · obtain ⟨x, hx⟩ : ∃ x, its[i]? = some x := ⟨its[i], List.getElem?_eq_getElem hlt⟩
        obtain ⟨g2, off2, rfl, e0, e1, e2⟩ := it_cells (hs.out.up F) hx
        have HX := Lib.hid (And.intro hx hP)
        clear hx hP
        have F5 := (Fr.refl [] wr).alloc (.cells #[.int .i64 x.k, .int .i64 x.v, .int .i64 x.d] 73)
        have o5 := Ob.new wr 73 #[.int .i64 x.k, .int .i64 x.v, .int .i64 x.d]
        obtain ⟨x0, x1, x2, x3, x4, x5, x6, x7, x8⟩ := ch_cells (lv := lv) (h := h) ((o2.up F).up F5)
        obtain ⟨g', off', hg', -, d1, -⟩ := kr_cells (HB2.out.up (F.trans F5)) (i := 0) (x := y) rfl
        rw [Nat.zero_mul, Nat.add_zero] at d1
        simp only [Option.some.injEq, Addr.mk.injEq] at hg'
        obtain ⟨rfl, rfl, -⟩ := hg'
        clear x0 x2 x3 x4 x5 x6 x7 x8
        go_wp2_with fail
        generalize (wr.alloc (.cells #[.int .i64 x.k, .int .i64 x.v, .int .i64 x.d] 73)) = w5 at *
        have j0 := In.cell (o5.cell (i := 0) rfl)
        have k1 := In.cell x1
        have k9 := In.cell d1
        clear d1
        clear o5 e0 e1 e2 x1
        by_cases q1 : x.k < h.mn
        · have g1 : decide (x.k < h.mn) = true := by simpa using q1
          have HQ := Lib.hid q1
          clear q1
          refine wp_region_in (by kernel_rfl) (by kernel_rfl) ?_
          repeat (go_big_quiet_step (fail))
          refine wpQuiet_nil ?_
          intro w6 F6
          have F9 := Lib.hid (F.trans (F5.trans F6))
          clear F5 F6 F k1 j0
          go_wp2_with fail
          go_ret
          exact ⟨by rw [HST.out, all_not HX.out.1 (by have := HQ.out; simp; omega)]; rfl, FX.out.trans F9.out⟩
        · have g1 : decide (x.k < h.mn) = false := by simpa using q1
          have HQ := Lib.hid q1
          clear q1
          by_cases q2 : y.hd.mn ≤ x.k
          · have g2 : decide (x.k ≥ y.hd.mn) = true := by simpa using q2
            have HQ2 := Lib.hid q2
            clear q2
            refine wp_region_in (by kernel_rfl) (by kernel_rfl) ?_
            repeat (go_big_quiet_step (fail))
            refine wpQuiet_nil ?_
            intro w6 F6
            have F9 := Lib.hid (F.trans (F5.trans F6))
            clear F5 F6 F k1 j0
            go_wp2_with fail
            go_ret
            exact ⟨by rw [HST.out, all_not HX.out.1 (by have := HQ2.out; simp; omega)]; rfl, FX.out.trans F9.out⟩
          · have g2 : decide (x.k ≥ y.hd.mn) = false := by simpa using q2
            have HQ2 := Lib.hid q2
            clear q2
            refine wp_region_in (by kernel_rfl) (by kernel_rfl) ?_
            repeat (go_big_quiet_step (fail))
            refine wpQuiet_nil ?_
            intro w6 F6
            have F9 := Lib.hid (F.trans (F5.trans F6))
            clear F5 F6 F k1 j0
            go_wp2_with fail
            go_roundw
            case rel => exact ⟨i + 1, by omega, by go_num, F9.out, fun j z hj hz => by
              by_cases e : j = i
              · subst e; rw [HX.out.1] at hz; cases hz; have := HQ.out; have := HQ2.out; simp; omega
              · exact HX.out.2 j z (by omega) hz⟩
            case measure => simp [RowKit.intOf]; omega
      · obtain rfl : i = its.length := by omega
        have HP := Lib.hid (all_get hP)
        have FX2 := Lib.hid (FX.out.trans F)
        clear hP F
        go_wp2
        go_ret
        exact ⟨by rw [HST.out, HP.out]; rfl, FX2.out⟩
theorem stands_any (h : Hd) (cs : List Ce) (v : Value) (ys : List Kr) (bv : Value) (w : World) (hl : cs.length ≤ 1000) (hv : ChIs w v h cs) (hb : Sq fK w bv ys) (hyl : ys.length ≤ 100000) :
    Calls Try.prog 26 #[v, bv] w fun e w' => e = .returned (.bool (stB h.mn (itemsC cs) (ys.head?.map (fun y => y.hd.mn)))) ∧ Fr [] w w' := by
  cases ys with
  | nil =>
    obtain ⟨a, cap, rfl, -, -, -⟩ := hb
    exact stands_nil h cs v a cap w hl hv
  | cons y r => exact stands_cons h cs v y r bv w hl hv hb (by simp at hyl; omega)
theorem CkRow.stands {w : World} {B : Nat} {xs : List Kr} {L : List (Hd × List Ce)} (h : CkRow w B xs L) {i : Nat} {x : Kr} {y : Hd × List Ce} (hx : xs[i]? = some x) (hy : L[i]? = some y) :
    stB x.hd.mn (itemsC y.2) ((xs.drop (i + 1)).head?.map (fun z => z.hd.mn)) = standsB y (L.drop (i + 1)) := by
  rw [← stB_stands, (h.each i x y hx hy).hd]
  congr 1
  have e := congrArg (fun l : List Hd => (l.drop (i + 1)).head?.map Hd.mn) h.hds
  simpa [List.map_drop, Function.comp_def] using e
theorem allStand_iff (L : List (Hd × List Ce)) : allStand L = true ↔ ∀ (i : Nat) y, L[i]? = some y → standsB y (L.drop (i + 1)) = true := by
  induction L with
  | nil => simp [allStand]
  | cons x r ih =>
    unfold allStand
    rw [Bool.and_eq_true, ih]
    constructor
    · rintro ⟨h1, h2⟩ i y hy
      cases i with
      | zero => simp at hy; subst hy; simpa using h1
      | succ i => simpa using h2 i y (by simpa using hy)
    · intro h
      exact ⟨by simpa using h 0 x rfl, fun i y hy => by simpa using h (i + 1) y (by simpa using hy)⟩
theorem lastNx_eq : ∀ (L : List (Hd × List Ce)), lastNx L = (L.getLast?.map (fun x => x.1.nx)).getD 0
  | [] => rfl
  | [x] => rfl
  | _ :: y :: r => by unfold lastNx; rw [lastNx_eq (y :: r)]; simp [List.getLast?_cons_cons]
end Go.Proofs.Ytkdnhaglfbkhfaa.Ch
