/- The reference's scripts: whether two are the same. -/
import Derived.Test.YtedenkghacbdeaaDoorRefOp
import Derived.Test.YtedenkghacbdeaaDoorKnown4
namespace Go.Proofs.YtedenkghacbdeaaDoor.Ro
open Go.RowKit Go.Maps Go.Proofs.YtedenkghacbdeaaDoor.Ar Go.Proofs.YtedenkghacbdeaaDoor.Og
set_option linter.unusedVariables false
set_option linter.unusedSimpArgs false
theorem conf_neq (k i o n k' i' o' n' : Int) (W : World) : (binOp .neq 25 (.agg #[.int .i64 k, .int .i64 i, .int .i64 o, .int .i64 n]) (.agg #[.int .i64 k', .int .i64 i', .int .i64 o', .int .i64 n'])).run Tryd.prog W = .ok (.bool (!(k == k' && i == i' && o == o' && n == n'))) W := by
  have u3 := Tryd.underlying3
  have a3 : (isAgg 3).run Tryd.prog W = .ok false W := by kernel_rfl
  have hS : Tryd.prog.underlying 25 = some (.struct (Tryd.prog.fieldsOf 25)) := by kernel_rfl
  have hp : Tryd.prog.stoodInHeld 25 = false := by kernel_rfl
  rw [run_neq_struct, show (10000 : Nat) = 9999 + 1 from rfl, run_equalIn_agg W 9999 25 _ _ hS hp]
  simp only [Program.fieldsOf, Tryd.underlying25]
  go_simp
  cases h1 : k == k' <;> cases h2 : i == i' <;> cases h3 : o == o' <;> cases h4 : n == n' <;> simp_all
set_option maxHeartbeats 3200000 in
theorem sameInts_any (xs ys : List Int) (u v : Value) (w : World) (hx : Law.Ints w .i64 u xs) (hy : Law.Ints w .i64 v ys) : Calls Tryd.prog 32 #[u, v] w fun e w' => e = .returned (.bool (decide (xs = ys))) ∧ Fr [] w w' := by
  obtain ⟨a, cap, rfl, hl, -, hc⟩ := hx
  obtain ⟨a2, cap2, rfl, hl2, -, hc2⟩ := hy
  have HC := Lib.hid hc
  have HC2 := Lib.hid hc2
  clear hc hc2
  unfold maxLen at hl hl2
  go_enter Tryd.func32, Tryd.ntmps32
  by_cases hll : xs.length = ys.length
  · have g : ((xs.length : Int) != ys.length) = false := by simp [hll]
    have HL := Lib.hid hll
    clear hll
    go_wp2_with fail
    go_loopw [5] (Og.EqAt w xs ys) (fun x _ => xs.length - (intOf x).toNat)
    case atStart => exact ⟨0, Nat.zero_le _, rfl, Fr.refl _ _, by omega⟩
    case round =>
      obtain ⟨n, hn, rfl, Fw, hi⟩ := hrel
      by_cases hlt : n < xs.length
      · rcases HC.out with hz | ⟨b, off, rfl, hb, hcell⟩
        · omega
        rcases HC2.out with hz | ⟨b2, off2, rfl, hb2, hcell2⟩
        · have := HL.out; omega
        have hlt2 : n < ys.length := by have := HL.out; omega
        have k0 := In.cell (cell_up Fw (hcell n hlt))
        have k1 := In.cell (cell_up Fw (hcell2 n hlt2))
        have ex : xs.getD n 0 = xs[n] := by simp [List.getD_eq_getElem?_getD, hlt]
        have ey : ys.getD n 0 = ys[n] := by simp [List.getD_eq_getElem?_getD, hlt2]
        clear hcell hcell2
        go_wp2_with fail
        refine wp_region_in (by kernel_rfl) (by kernel_rfl) ?_
        repeat (go_big_quiet_step (fail))
        refine wpQuiet_nil ?_
        intro w1 F1
        clear k0 k1
        cases hg : (xs[n] != ys[n]) with
        | true =>
          go_wp2
          go_ret
          exact ⟨by rw [ne_of_getD (d := 0) (i := n) (by rw [ex, ey]; simpa using hg)]; rfl, Fw.trans F1⟩
        | false =>
          go_wp2
          go_roundw
          case rel =>
            refine ⟨n + 1, by omega, by go_num, Fw.trans F1, fun i hi' => ?_⟩
            by_cases hin : i = n
            · rw [hin, ex, ey]; simpa using hg
            · exact hi i (by omega)
          case measure => simp [intOf]; omega
      · obtain rfl : n = xs.length := by omega
        go_wp2
        go_ret
        exact ⟨by rw [eq_of_getD HL.out hi]; rfl, Fw⟩
  · have g : ((xs.length : Int) != ys.length) = true := by simp; omega
    have HL := Lib.hid hll
    clear hll
    go_wp2
    go_ret
    exact ⟨by rw [ne_of_len HL.out]; rfl, Fr.refl _ _⟩
/-- Where the loop over the rows stands: the rows ahead are the same. -/
def SmAt (w : World) (b b2 : Nat) (Z Z2 : Array Value) (rs rs' : List (List O)) (x : Value) (wr : World) : Prop := ∃ n : Nat, n ≤ rs.length ∧ x = .int .i64 n ∧ wr.heap[b]? = some (.cells Z 29 (0, 0)) ∧ wr.heap[b2]? = some (.cells Z2 29 (0, 0)) ∧ Fr [] w wr ∧ ∀ i, i < n → rs.getD i [] = rs'.getD i []
def SmAt2 (w : World) (b b2 : Nat) (Z Z2 : Array Value) (os os' : List O) (x : Value) (wr : World) : Prop := ∃ n : Nat, n ≤ os.length ∧ x = .int .i64 n ∧ wr.heap[b]? = some (.cells Z 29 (0, 0)) ∧ wr.heap[b2]? = some (.cells Z2 29 (0, 0)) ∧ Fr [] w wr ∧ ∀ i, i < n → os.getD i (0, 0, 0, 0) = os'.getD i (0, 0, 0, 0)
set_option maxRecDepth 100000 in
set_option maxHeartbeats 8000000 in
theorem sameScript_any (t c wd v t' c' wd' v' : Int) (rs rs' : List (List O)) (ps ps' ds ds' : List Int) (s s' : Value) (w : World) (h : Scr w s t c wd v rs ps ds) (h' : Scr w s' t' c' wd' v' rs' ps' ds') :
    Calls Tryd.prog 15 #[s, s'] w fun e w' => e = .returned (.bool (sameS t c wd v t' c' wd' v' rs rs' ps ps' ds ds')) ∧ Fr [] w w' := by
  obtain ⟨vo, vp, vd, rfl, hr, hp, hd⟩ := h
  obtain ⟨vo', vp', vd', rfl, hr', hp', hd'⟩ := h'
  obtain ⟨a, cap, x, rfl, hl, hc, hrow⟩ := hr
  obtain ⟨a2, cap2, x2, rfl, hl2, hc2, hrow2⟩ := hr'
  have HC := Lib.hid hc
  have HR := Lib.hid hrow
  have HC2 := Lib.hid hc2
  have HR2 := Lib.hid hrow2
  clear hc hrow hc2 hrow2
  unfold maxLen at hl hl2
  have hG := confGuard
  have hG2 := opGuard
  have hq := conf_neq t c wd v t' c' wd' v'
  have hx : sameS t c wd v t' c' wd' v' rs rs' ps ps' ds ds' = ((t == t' && c == c' && wd == wd' && v == v') && (decide (rs = rs') && (decide (ps = ps') && decide (ds = ds')))) := rfl
  generalize (t == t' && c == c' && wd == wd' && v == v') = q at hq hx
  have HX := Lib.hid hx
  clear hx
  have G0 := ((Fr.refl [] w).alloc (.cells #[.int .i64 t, .int .i64 c, .int .i64 wd, .int .i64 v, .slice a rs.length cap, vp, vd] 29)).alloc (.cells #[.int .i64 t', .int .i64 c', .int .i64 wd', .int .i64 v', .slice a2 rs'.length cap2, vp', vd'] 29)
  have hb := Og.new_at (b := w.heap.size) rfl ((Fr.refl [] (w.alloc (.cells #[.int .i64 t, .int .i64 c, .int .i64 wd, .int .i64 v, .slice a rs.length cap, vp, vd] 29))).alloc (.cells #[.int .i64 t', .int .i64 c', .int .i64 wd', .int .i64 v', .slice a2 rs'.length cap2, vp', vd'] 29))
  have hb' := Og.new_at (b := w.heap.size + 1) (size_alloc _ _) (Fr.refl [] ((w.alloc (.cells #[.int .i64 t, .int .i64 c, .int .i64 wd, .int .i64 v, .slice a rs.length cap, vp, vd] 29)).alloc (.cells #[.int .i64 t', .int .i64 c', .int .i64 wd', .int .i64 v', .slice a2 rs'.length cap2, vp', vd'] 29)))
  go_enter Tryd.func15, Tryd.ntmps15
  cases q with
  | false =>
    simp only [Bool.not_false] at hq
    clear hb hb' hG2
    go_wp2
    go_ret
    exact ⟨by rw [HX.out]; rfl, G0⟩
  | true =>
    simp only [Bool.not_true] at hq
    by_cases hll : rs.length = rs'.length
    case neg =>
      have g : ((rs.length : Int) != rs'.length) = true := by simp; omega
      have HL := Lib.hid hll
      clear hll hb hb' hG2
      go_wp2
      go_ret
      exact ⟨by rw [HX.out, ne_of_len HL.out]; rfl, G0⟩
    have g : ((rs.length : Int) != rs'.length) = false := by simp [hll]
    have HL := Lib.hid hll
    clear hll
    go_wp2_with fail
    refine (sameInts_any ps ps' _ _ _ (ints_up hp G0) (ints_up hp' G0)).mono ?_; rintro e w1 ⟨rfl, F1⟩
    have hb1 := heap_up F1 hb
    have hb1' := heap_up F1 hb'
    have G1 := G0.trans F1
    clear hb hb' hq hG G0 g
    cases hpp : decide (ps = ps') with
    | false =>
      clear hb1 hb1' hG2
      go_wp2
      go_ret
      exact ⟨by rw [HX.out, hpp]; simp, G1⟩
    | true =>
      obtain ⟨-, -, -, -, -, -, e6⟩ := cells7 hb1
      obtain ⟨-, -, -, -, -, -, f6⟩ := cells7 hb1'
      have HB := Lib.hid hb1
      have HB' := Lib.hid hb1'
      clear hb1 hb1'
      go_wp2_with fail
      refine (sameInts_any ds ds' _ _ _ (ints_up hd G1) (ints_up hd' G1)).mono ?_; rintro e w2 ⟨rfl, F2⟩
      have hb2 := heap_up F2 HB.out
      have hb2' := heap_up F2 HB'.out
      have G2 := G1.trans F2
      clear HB HB' e6 f6 G1
      cases hdd : decide (ds = ds') with
      | false =>
        clear hb2 hb2' hG2
        go_wp2
        go_ret
        exact ⟨by rw [HX.out, hdd]; simp, G2⟩
      | true =>
        have HPD := Lib.hid (And.intro hpp hdd)
        clear hpp hdd
        have HB := Lib.hid hb2
        have HB' := Lib.hid hb2'
        clear hb2 hb2'
        go_wp2_with fail
        go_loopw [5] (SmAt w2 w.heap.size (w.heap.size + 1) #[.int .i64 t, .int .i64 c, .int .i64 wd, .int .i64 v, .slice a rs.length cap, vp, vd] #[.int .i64 t', .int .i64 c', .int .i64 wd', .int .i64 v', .slice a2 rs'.length cap2, vp', vd'] rs rs') (fun x _ => rs.length - (intOf x).toNat)
        case atStart => exact ⟨0, Nat.zero_le _, rfl, HB.out, HB'.out, Fr.refl _ _, by omega⟩
        case round =>
          obtain ⟨n, hn, rfl, hb, hb', Fq, hi⟩ := hrel
          obtain ⟨c0, c1, c2, c3, c4, c5, c6⟩ := cells7 hb
          obtain ⟨d0, d1, d2, d3, d4, d5, d6⟩ := cells7 hb'
          clear c0 c1 c2 c3 c5 c6 d0 d1 d2 d3 d5 d6
          by_cases hlt : n < rs.length
          · rcases HC.out with hz | ⟨b, off, rfl, hbb, hcell⟩
            · omega
            rcases HC2.out with hz | ⟨b2, off2, rfl, hbb2, hcell2⟩
            · have := HL.out; omega
            have hlt' : n < rs'.length := by have := HL.out; omega
            have G3 := G2.trans Fq
            have m0 := cell_up G3 (hcell n hlt)
            have m1 := cell_up G3 (hcell2 n hlt')
            obtain ⟨a3, cap3, hxe, hl3, -, hc3⟩ := HR.out n hlt
            obtain ⟨a4, cap4, hxe', hl4, -, hc4⟩ := HR2.out n hlt'
            rw [hxe] at m0
            rw [hxe'] at m1
            have HM := Lib.hid (And.intro m0 m1)
            have k0 := In.cell m0
            have k1 := In.cell m1
            have k2 := In.cell c4
            have k3 := In.cell d4
            have HC3 := Lib.hid hc3
            have HC4 := Lib.hid hc4
            unfold maxLen at hl3 hl4
            clear hc3 hc4 hxe hxe' hcell hcell2 m0 m1
            obtain ⟨g5, hg5⟩ : ∃ g5, (((nthR rs n).length : Int) != (nthR rs' n).length) = g5 := ⟨_, rfl⟩
            go_wp2_with fail
            refine wp_region_in (by kernel_rfl) (by kernel_rfl) ?_
            repeat (go_big_quiet_step (fail))
            refine wpQuiet_nil ?_
            intro w3 F3
            clear k0 k1 k2 k3 c4 d4
            have hb3 := heap_up F3 hb
            have hb3' := heap_up F3 hb'
            have Fq3 := Fq.trans F3
            have HM3 := Lib.hid (And.intro (cell_up F3 HM.out.1) (cell_up F3 HM.out.2))
            have G4 := G3.trans F3
            clear hb hb' Fq G3 F3 HM
            cases g5 with
            | true =>
              have hne : decide (rs = rs') = false := by
                refine ne_of_getD (d := []) (i := n) (fun e => ?_)
                have e2 : nthR rs n = nthR rs' n := e
                rw [e2] at hg5; simp at hg5
              clear hb3 hb3' hG2 hg5
              go_wp2
              go_ret
              exact ⟨by rw [HX.out, hne]; rfl, G4⟩
            | false =>
              have HN := Lib.hid hg5
              clear hg5
              have HB3 := Lib.hid hb3
              have HB3' := Lib.hid hb3'
              clear hb3 hb3'
              go_wp2_with fail
              go_loopw [6] (SmAt2 w3 w.heap.size (w.heap.size + 1) #[.int .i64 t, .int .i64 c, .int .i64 wd, .int .i64 v, .slice (some ⟨b, off, none⟩) rs.length cap, vp, vd] #[.int .i64 t', .int .i64 c', .int .i64 wd', .int .i64 v', .slice (some ⟨b2, off2, none⟩) rs'.length cap2, vp', vd'] (nthR rs n) (nthR rs' n)) (fun x _ => (nthR rs n).length - (intOf x).toNat)
              case atStart => exact ⟨0, Nat.zero_le _, rfl, HB3.out, HB3'.out, Fr.refl _ _, by omega⟩
              case round =>
                obtain ⟨m, hm, rfl, hb, hb', Fz, hj⟩ := hrel
                obtain ⟨c0, c1, c2, c3, c4, c5, c6⟩ := cells7 hb
                obtain ⟨d0, d1, d2, d3, d4, d5, d6⟩ := cells7 hb'
                clear c0 c1 c2 c3 c5 c6 d0 d1 d2 d3 d5 d6
                have G5 := G4.trans Fz
                have m0 := cell_up Fz HM3.out.1
                have m1 := cell_up Fz HM3.out.2
                have hlen : (nthR rs n).length = (nthR rs' n).length := by have := HN.out; simp at this; omega
                have HLn := Lib.hid hlen
                clear hlen
                by_cases hlt2 : m < (nthR rs n).length
                · rcases HC3.out with hz | ⟨b3, off3, rfl, hbb3, hcell3⟩
                  · omega
                  rcases HC4.out with hz | ⟨b4, off4, rfl, hbb4, hcell4⟩
                  · have := HLn.out; omega
                  have hlt2' : m < (nthR rs' n).length := by have := HLn.out; omega
                  obtain ⟨p0, p1, p2, p3⟩ := hcell3 m hlt2
                  obtain ⟨q0, q1, q2, q3⟩ := hcell4 m hlt2'
                  have k0 := In.cell (cell_up G5 p0)
                  have k1 := In.cell (cell_up G5 p1)
                  have k2 := In.cell (cell_up G5 p2)
                  have k3 := In.cell (cell_up G5 p3)
                  have l0 := In.cell (cell_up G5 q0)
                  have l1 := In.cell (cell_up G5 q1)
                  have l2 := In.cell (cell_up G5 q2)
                  have l3 := In.cell (cell_up G5 q3)
                  have r0 := In.cell m0
                  have r1 := In.cell m1
                  have r2 := In.cell c4
                  have r3 := In.cell d4
                  have hne := op_neq (nthO (nthR rs n) m).1 (nthO (nthR rs n) m).2.1 (nthO (nthR rs n) m).2.2.1 (nthO (nthR rs n) m).2.2.2 (nthO (nthR rs' n) m).1 (nthO (nthR rs' n) m).2.1 (nthO (nthR rs' n) m).2.2.1 (nthO (nthR rs' n) m).2.2.2
                  rw [o_ne] at hne
                  obtain ⟨q, hg⟩ : ∃ q, decide (nthO (nthR rs n) m ≠ nthO (nthR rs' n) m) = q := ⟨_, rfl⟩
                  rw [hg] at hne
                  clear hcell3 hcell4 p0 p1 p2 p3 q0 q1 q2 q3
                  go_wp2_with fail
                  refine wp_region_in (by kernel_rfl) (by kernel_rfl) ?_
                  repeat (go_big_quiet_step (fail))
                  refine wpQuiet_nil ?_
                  intro w4 F4
                  have hb4 := heap_up F4 hb
                  have hb4' := heap_up F4 hb'
                  have HG := Lib.hid hg
                  clear k0 k1 k2 k3 l0 l1 l2 l3 r0 r1 r2 r3 hne hb hb' c4 d4 m0 m1 hg hG2
                  cases q with
                  | true =>
                    clear hb4 hb4'
                    go_wp2
                    go_ret
                    refine ⟨?_, G5.trans F4⟩
                    rw [HX.out, ne_of_getD (xs := rs) (ys := rs') (d := []) (i := n) (fun e => ?_)]
                    · rfl
                    · have e2 : nthR rs n = nthR rs' n := e
                      exact of_decide_eq_true HG.out (by rw [e2])
                  | false =>
                    have HB4 := Lib.hid hb4
                    have HB4' := Lib.hid hb4'
                    clear hb4 hb4'
                    go_wp2
                    go_roundw
                    case rel =>
                      refine ⟨m + 1, by omega, by go_num, HB4.out, HB4'.out, Fz.trans F4, fun i hi' => ?_⟩
                      by_cases hin : i = m
                      · rw [hin]; have := HG.out; simpa [nthO] using this
                      · exact hj i (by omega)
                    case measure => simp [intOf]; omega
                · obtain rfl : m = (nthR rs n).length := by omega
                  have hrow : nthR rs n = nthR rs' n := of_decide_eq_true (eq_of_getD HLn.out hj)
                  have HRw := Lib.hid hrow
                  have HB4 := Lib.hid hb
                  have HB4' := Lib.hid hb'
                  clear hrow hb hb' hG2
                  go_wp2
                  go_roundw
                  case rel =>
                    refine ⟨n + 1, by omega, by go_num, HB4.out, HB4'.out, Fq3.trans Fz, fun i hi' => ?_⟩
                    by_cases hin : i = n
                    · rw [hin]; exact HRw.out
                    · exact hi i (by omega)
                  case measure => simp [intOf]; omega
          · obtain rfl : n = rs.length := by omega
            have HE := Lib.hid (eq_of_getD HL.out hi)
            clear hi hb hb' hG2
            go_wp2
            go_ret
            exact ⟨by rw [HX.out, HE.out, HPD.out.1, HPD.out.2]; rfl, G2.trans Fq⟩
end Go.Proofs.YtedenkghacbdeaaDoor.Ro
