/- The reference's Keep (layer 8). -/
import Derived.Test.YteahponbknljlaaKept
namespace Go.Proofs.Yteahponbknljlaa.Mx
open Go.RowKit Go.Proofs.Yteahponbknljlaa.Ar
set_option linter.unusedVariables false
set_option linter.unusedSimpArgs false
/-- Where Keep stands: i looked at, out of them kept. -/
def KepAt (w : World) (s : List It) (vs : List Int) (u x : Value) (wr : World) : Prop := ∃ i out, i ≤ s.length ∧ x = .int .i64 (i : Nat) ∧ out.length ≤ i ∧ wr.ownsRow w.heap.size 26 3 u out.length (out.flatMap fT) ∧ Fr [] w wr ∧ out ++ keepS vs (s.drop i) = keepS vs s
/-- Where the versions stand: k looked at. -/
def KpvAt (wr : World) (vs : List Int) (last : Bool) (P : Int → Bool) (u x : Value) (w' : World) : Prop := ∃ k, k ≤ vs.length ∧ x = .int .i64 (k : Nat) ∧ u = .bool (last || (vs.take k).any P) ∧ Fr [] wr w'
theorem any_more {P : Int → Bool} {vs : List Int} {k : Nat} {z : Int} (hz : vs[k]? = some z) : (vs.take (k + 1)).any P = ((vs.take k).any P || P z) := by
  rw [List.take_add_one, hz, Option.toList_some, List.any_append]; simp
theorem keepS_at {vs : List Int} {s : List It} {i : Nat} {x : It} (hx : s[i]? = some x) : keepS vs (s.drop i) = if keepsB x s[i + 1]? vs = true then x :: keepS vs (s.drop (i + 1)) else keepS vs (s.drop (i + 1)) := by
  obtain ⟨hi, rfl⟩ := List.getElem?_eq_some_iff.1 hx
  rw [List.drop_eq_getElem_cons hi]
  show (if keepsB _ (s.drop (i + 1)).head? vs = true then _ else _) = _
  rw [List.head?_drop]
set_option maxRecDepth 100000 in
set_option maxHeartbeats 6400000 in
theorem keep_any (l : List It) (vs : List Int) (v u : Value) (w : World) (hl : l.length ≤ 1000) (hvl : vs.length ≤ 1000) (h : Sq fT w v l) (hv : Sq fI w u vs) :
    Calls Try.prog 16 #[v, u] w fun e w' => (∃ r, e = .returned r ∧ w'.ownsRow w.heap.size 26 3 r (keepT l vs).length ((keepT l vs).flatMap fT)) ∧ Fr [] w w' := by
  unfold keepT
  obtain ⟨av, cv, rfl, hcv, hmv, -⟩ := id hv
  go_enter Try.func16, Try.ntmps16
  go_wp2_with fail
  refine (sort_any l v w hl h).mono ?_; rintro e w1 ⟨⟨u1, rfl, r1⟩, F1⟩
  have hs1 : (sortT l).length ≤ 1000 := by rw [sortT_length]; exact hl
  generalize hso : sortT l = s at *
  have HSO := Lib.hid hso
  clear hso
  obtain ⟨asl, csl, rfl, hcs, hms, -⟩ := id (Sq.own (f := fT) r1)
  have S1 := Sq.own (f := fT) r1
  have hv1 := hv.up F1
  have HF1 := Lib.hid F1
  clear r1 h hv F1
  go_wp2_with fail
  go_loopw [6, 7] (KepAt w1 s vs) (fun _ x _ => s.length - (intOf x).toNat)
  case atStart => exact ⟨0, [], by omega, rfl, by simp, ⟨rfl, .inl ⟨rfl, rfl⟩⟩, Fr.refl _ _, by simp⟩
  case round =>
    obtain ⟨i, out, hi, rfl, ho, hr, F, hk⟩ := hrel
    by_cases hlt : i < s.length
    · obtain ⟨x, hx⟩ : ∃ x, s[i]? = some x := ⟨s[i], List.getElem?_eq_getElem hlt⟩
      have hS := S1.up F
      obtain ⟨gs, os, rfl, x0, x1, x2⟩ := it_cells hS hx
      rw [keepS_at hx] at hk
      obtain ⟨ao, co, rfl, hco, hcm, -⟩ := id (Sq.own (f := fT) hr)
      have HK := Lib.hid hk
      clear hk
      by_cases hE : i + 1 = s.length
      · have hn : s[i + 1]? = none := List.getElem?_eq_none (by omega)
        have hkb : keepsB x s[i + 1]? vs = true := by rw [hn]; simp [keepsB]
        have HKB := Lib.hid hkb
        have g1 : (((i : Nat) : Int) + 1 == ((s.length : Nat) : Int)) = true := by simp; omega
        clear hkb hn
        go_wp2_with fail
        have k0 := In.cell x0
        skip
        refine wp_region_in (by kernel_rfl) (by kernel_rfl) ?_
        repeat (go_big_quiet_step (fail))
        refine wpQuiet_nil ?_
        intro w5 F5
        clear k0 
        go_wp2_with fail
        have HFF := Lib.hid (F.trans F5)
        have r5 := Lib.hid (row_keeps hr F5)
        have x0 := F5.cell x0 (by simp)
        have x1 := F5.cell x1 (by simp)
        have x2 := F5.cell x2 (by simp)
        skip
        have HV5 := Lib.hid (hv1.up HFF.out)
        go_loopw [9, 10] (KpvAt w5 vs true (fun _ => false)) (fun _ x _ => vs.length - (intOf x).toNat)
        case atStart => exact ⟨0, Nat.zero_le _, rfl, by simp, Fr.refl _ _⟩
        case round =>
          obtain ⟨k, hk, rfl, hu, F6⟩ := hrel
          by_cases hkl : k < vs.length
          · obtain ⟨z, hz⟩ : ∃ z, vs[k]? = some z := ⟨vs[k], List.getElem?_eq_getElem hkl⟩
            have hmore := any_more (P := (fun _ => false)) hz
            have HM := Lib.hid hmore
            clear hmore
            have HF6 := Lib.hid F6
            have hu' := hu.trans (show _ = Value.bool true by simp)
            subst hu'
            clear hu
            clear F6
            go_wp2_with fail
            refine wp_region_in (by kernel_rfl) (by kernel_rfl) ?_
            repeat (go_big_quiet_step (fail))
            refine wpQuiet_nil ?_
            intro w7 F7
            go_wp2_with fail
            go_roundw
            case rel => exact ⟨k + 1, by omega, by go_num, by simp, HF6.out.trans F7⟩
            case measure => simp [intOf]; omega
          · obtain rfl : k = vs.length := by omega
            rw [List.take_length] at hu
            have hu' := hu.trans (show _ = Value.bool true by simp)
            subst hu'
            clear hu
            have x0 := F6.cell x0 (by simp)
            have x1 := F6.cell x1 (by simp)
            have x2 := F6.cell x2 (by simp)
            have HFG := Lib.hid (HFF.out.trans F6)
            have r6 := row_keeps r5.out F6
            have F12 := (Fr.refl [] wr).alloc (.cells #[.int .i64 x.k, .int .i64 x.v, .int .i64 x.d] 26)
            have B12 := Go.heap_alloc_new wr (.cells #[.int .i64 x.k, .int .i64 x.v, .int .i64 x.d] 26)
            have r12 := row_keeps r6 F12
            have HG := Lib.hid (HFG.out.trans F12)
            clear r6 F12 F6
            go_wp2_with (at_builtin; refine wpList_appSq fT_lays rfl _ _ 22 rfl Try.underlying22 itI rfl (B := w1.heap.size) _ out rfl r12 _ [x] rfl (Sq.block B12 rfl rfl (Nat.le_refl _) (by simp [maxLen])) (by simp; omega) (by decide) HG.out.size ?_; intro a21 c21 w21 r21 f21)
            have HR := Lib.hid (show w21.ownsRow w1.heap.size 26 3 (.slice a21 (out.length + 1) c21) (out ++ [x]).length ((out ++ [x]).flatMap fT) by rw [show (Value.slice a21 (out ++ [x]).length c21) = Value.slice a21 (out.length + 1) c21 by simp] at r21; exact r21)
            have HG2 := Lib.hid (HG.out.own f21 (row_base r12))
            clear r21 f21 r12 B12
            go_wp2_with fail
            go_roundw
            case rel => exact ⟨i + 1, out ++ [x], by omega, by go_num, by simp; omega, HR.out, HG2.out, by rw [← HK.out, HKB.out]; simp⟩
            case measure => simp [intOf]; omega
      · obtain ⟨y, hy⟩ : ∃ y, s[i + 1]? = some y := ⟨s[i + 1], List.getElem?_eq_getElem (by omega)⟩
        obtain ⟨gs', os', hgs, y0, y1, -⟩ := it_cells hS hy
        simp only [Option.some.injEq, Addr.mk.injEq] at hgs
        obtain ⟨rfl, rfl, -⟩ := hgs
        by_cases hD : ¬ y.k = x.k
        · have hkb : keepsB x s[i + 1]? vs = true := by rw [hy]; simp [keepsB, hD]
          have g2 : (y.k == x.k) = false := by simpa using hD
          have g3 : (y.k != x.k) = true := by simpa using hD
          have HKB := Lib.hid hkb
          have HD := Lib.hid hD
          have g1 : (((i : Nat) : Int) + 1 == ((s.length : Nat) : Int)) = false := by simp; omega
          clear hkb hD
          go_wp2_with fail
          have k0 := In.cell x0
          have j0 := In.cell y0
          refine wp_region_in (by kernel_rfl) (by kernel_rfl) ?_
          repeat (go_big_quiet_step (fail))
          refine wpQuiet_nil ?_
          intro w5 F5
          clear k0 j0
          go_wp2_with fail
          have HFF := Lib.hid (F.trans F5)
          have r5 := Lib.hid (row_keeps hr F5)
          have x0 := F5.cell x0 (by simp)
          have x1 := F5.cell x1 (by simp)
          have x2 := F5.cell x2 (by simp)
          have y1 := F5.cell y1 (by simp)
          have HV5 := Lib.hid (hv1.up HFF.out)
          go_loopw [9, 10] (KpvAt w5 vs true (fun _ => false)) (fun _ x _ => vs.length - (intOf x).toNat)
          case atStart => exact ⟨0, Nat.zero_le _, rfl, by simp, Fr.refl _ _⟩
          case round =>
            obtain ⟨k, hk, rfl, hu, F6⟩ := hrel
            by_cases hkl : k < vs.length
            · obtain ⟨z, hz⟩ : ∃ z, vs[k]? = some z := ⟨vs[k], List.getElem?_eq_getElem hkl⟩
              have hmore := any_more (P := (fun _ => false)) hz
              have HM := Lib.hid hmore
              clear hmore
              have HF6 := Lib.hid F6
              have hu' := hu.trans (show _ = Value.bool true by simp)
              subst hu'
              clear hu
              clear F6
              go_wp2_with fail
              refine wp_region_in (by kernel_rfl) (by kernel_rfl) ?_
              repeat (go_big_quiet_step (fail))
              refine wpQuiet_nil ?_
              intro w7 F7
              go_wp2_with fail
              go_roundw
              case rel => exact ⟨k + 1, by omega, by go_num, by simp, HF6.out.trans F7⟩
              case measure => simp [intOf]; omega
            · obtain rfl : k = vs.length := by omega
              rw [List.take_length] at hu
              have hu' := hu.trans (show _ = Value.bool true by simp)
              subst hu'
              clear hu
              have x0 := F6.cell x0 (by simp)
              have x1 := F6.cell x1 (by simp)
              have x2 := F6.cell x2 (by simp)
              have HFG := Lib.hid (HFF.out.trans F6)
              have r6 := row_keeps r5.out F6
              have F12 := (Fr.refl [] wr).alloc (.cells #[.int .i64 x.k, .int .i64 x.v, .int .i64 x.d] 26)
              have B12 := Go.heap_alloc_new wr (.cells #[.int .i64 x.k, .int .i64 x.v, .int .i64 x.d] 26)
              have r12 := row_keeps r6 F12
              have HG := Lib.hid (HFG.out.trans F12)
              clear r6 F12 F6
              go_wp2_with (at_builtin; refine wpList_appSq fT_lays rfl _ _ 22 rfl Try.underlying22 itI rfl (B := w1.heap.size) _ out rfl r12 _ [x] rfl (Sq.block B12 rfl rfl (Nat.le_refl _) (by simp [maxLen])) (by simp; omega) (by decide) HG.out.size ?_; intro a21 c21 w21 r21 f21)
              have HR := Lib.hid (show w21.ownsRow w1.heap.size 26 3 (.slice a21 (out.length + 1) c21) (out ++ [x]).length ((out ++ [x]).flatMap fT) by rw [show (Value.slice a21 (out ++ [x]).length c21) = Value.slice a21 (out.length + 1) c21 by simp] at r21; exact r21)
              have HG2 := Lib.hid (HG.out.own f21 (row_base r12))
              clear r21 f21 r12 B12
              go_wp2_with fail
              go_roundw
              case rel => exact ⟨i + 1, out ++ [x], by omega, by go_num, by simp; omega, HR.out, HG2.out, by rw [← HK.out, HKB.out]; simp⟩
              case measure => simp [intOf]; omega
        · have hkb : keepsB x s[i + 1]? vs = vs.any (fun z => decide (x.v ≤ z) && decide (z < y.v)) := by rw [hy]; have hD := Classical.not_not.1 hD; simp [keepsB, hD]
          have g2 : (y.k == x.k) = true := by simpa using Classical.not_not.1 hD
          have g3 : (y.k != x.k) = false := by simpa using Classical.not_not.1 hD
          have HKB := Lib.hid hkb
          have HD := Lib.hid hD
          have g1 : (((i : Nat) : Int) + 1 == ((s.length : Nat) : Int)) = false := by simp; omega
          clear hkb hD
          go_wp2_with fail
          have k0 := In.cell x0
          have j0 := In.cell y0
          refine wp_region_in (by kernel_rfl) (by kernel_rfl) ?_
          repeat (go_big_quiet_step (fail))
          refine wpQuiet_nil ?_
          intro w5 F5
          clear k0 j0
          go_wp2_with fail
          have HFF := Lib.hid (F.trans F5)
          have r5 := Lib.hid (row_keeps hr F5)
          have x0 := F5.cell x0 (by simp)
          have x1 := F5.cell x1 (by simp)
          have x2 := F5.cell x2 (by simp)
          have y1 := F5.cell y1 (by simp)
          have HV5 := Lib.hid (hv1.up HFF.out)
          go_loopw [9, 10] (KpvAt w5 vs false (fun z => decide (x.v ≤ z) && decide (z < y.v))) (fun _ x _ => vs.length - (intOf x).toNat)
          case atStart => exact ⟨0, Nat.zero_le _, rfl, by simp, Fr.refl _ _⟩
          case round =>
            obtain ⟨k, hk, rfl, hu, F6⟩ := hrel
            by_cases hkl : k < vs.length
            · obtain ⟨z, hz⟩ : ∃ z, vs[k]? = some z := ⟨vs[k], List.getElem?_eq_getElem hkl⟩
              have hmore := any_more (P := (fun z => decide (x.v ≤ z) && decide (z < y.v))) hz
              have HM := Lib.hid hmore
              clear hmore
              have HF6 := Lib.hid F6
              by_cases hP : (vs.take k).any (fun z => decide (x.v ≤ z) && decide (z < y.v)) = true
              · have hu' := hu.trans (show _ = Value.bool true by rw [hP]; rfl)
                subst hu'
                clear hu
                have HP := Lib.hid hP
                clear hP F6
                go_wp2_with fail
                refine wp_region_in (by kernel_rfl) (by kernel_rfl) ?_
                repeat (go_big_quiet_step (fail))
                refine wpQuiet_nil ?_
                intro w7 F7
                go_wp2_with fail
                go_roundw
                case rel => exact ⟨k + 1, by omega, by go_num, by rw [HM.out, HP.out]; rfl, HF6.out.trans F7⟩
                case measure => simp [intOf]; omega
              · rw [Bool.not_eq_true] at hP
                have hu' := hu.trans (show _ = Value.bool false by rw [hP]; rfl)
                subst hu'
                clear hu
                have HP := Lib.hid hP
                clear hP
                have y1 := In.cell (F6.cell y1 (by simp))
                have x1 := In.cell (F6.cell x1 (by simp))
                obtain ⟨gv, ov, rfl, z0⟩ := int_cell (HV5.out.up F6) hz
                have z0 := In.cell z0
                clear F6
                by_cases ha : x.v ≤ z
                · have g5 : decide (x.v ≤ z) = true := by simpa using ha
                  have HA := Lib.hid ha
                  clear ha
                  by_cases hb : z < y.v
                  · have g6 : decide (y.v > z) = true := by simpa using hb
                    have HB := Lib.hid hb
                    clear hb
                    go_wp2_with fail
                    refine wp_region_in (by kernel_rfl) (by kernel_rfl) ?_
                    repeat (go_big_quiet_step (fail))
                    refine wpQuiet_nil ?_
                    intro w7 F7
                    go_wp2_with fail
                    go_roundw
                    case rel => exact ⟨k + 1, by omega, by go_num, by rw [HM.out, HP.out]; simp [HA.out, HB.out], HF6.out.trans F7⟩
                    case measure => simp [intOf]; omega
                  · have g6 : decide (y.v > z) = false := by simpa using hb
                    have HB := Lib.hid hb
                    clear hb
                    go_wp2_with fail
                    refine wp_region_in (by kernel_rfl) (by kernel_rfl) ?_
                    repeat (go_big_quiet_step (fail))
                    refine wpQuiet_nil ?_
                    intro w7 F7
                    go_wp2_with fail
                    go_roundw
                    case rel => exact ⟨k + 1, by omega, by go_num, by rw [HM.out, HP.out]; simp only [decide_eq_false (Int.not_lt.2 HB.out), Bool.and_false]; rfl, HF6.out.trans F7⟩
                    case measure => simp [intOf]; omega
                · have g5 : decide (x.v ≤ z) = false := by simpa using ha
                  have HA := Lib.hid ha
                  clear ha
                  go_wp2_with fail
                  refine wp_region_in (by kernel_rfl) (by kernel_rfl) ?_
                  repeat (go_big_quiet_step (fail))
                  refine wpQuiet_nil ?_
                  intro w7 F7
                  go_wp2_with fail
                  go_roundw
                  case rel => exact ⟨k + 1, by omega, by go_num, by rw [HM.out, HP.out]; simp only [decide_eq_false (Int.not_le.2 HA.out), Bool.false_and]; rfl, HF6.out.trans F7⟩
                  case measure => simp [intOf]; omega
            · obtain rfl : k = vs.length := by omega
              rw [List.take_length] at hu
              by_cases hq : vs.any (fun z => decide (x.v ≤ z) && decide (z < y.v)) = true
              · have hu' := hu.trans (show _ = Value.bool true by rw [hq]; rfl)
                subst hu'
                clear hu
                have HQ := Lib.hid hq
                clear hq
                have x0 := F6.cell x0 (by simp)
                have x1 := F6.cell x1 (by simp)
                have x2 := F6.cell x2 (by simp)
                have HFG := Lib.hid (HFF.out.trans F6)
                have r6 := row_keeps r5.out F6
                have F12 := (Fr.refl [] wr).alloc (.cells #[.int .i64 x.k, .int .i64 x.v, .int .i64 x.d] 26)
                have B12 := Go.heap_alloc_new wr (.cells #[.int .i64 x.k, .int .i64 x.v, .int .i64 x.d] 26)
                have r12 := row_keeps r6 F12
                have HG := Lib.hid (HFG.out.trans F12)
                clear r6 F12 F6
                go_wp2_with (at_builtin; refine wpList_appSq fT_lays rfl _ _ 22 rfl Try.underlying22 itI rfl (B := w1.heap.size) _ out rfl r12 _ [x] rfl (Sq.block B12 rfl rfl (Nat.le_refl _) (by simp [maxLen])) (by simp; omega) (by decide) HG.out.size ?_; intro a21 c21 w21 r21 f21)
                have HR := Lib.hid (show w21.ownsRow w1.heap.size 26 3 (.slice a21 (out.length + 1) c21) (out ++ [x]).length ((out ++ [x]).flatMap fT) by rw [show (Value.slice a21 (out ++ [x]).length c21) = Value.slice a21 (out.length + 1) c21 by simp] at r21; exact r21)
                have HG2 := Lib.hid (HG.out.own f21 (row_base r12))
                clear r21 f21 r12 B12
                go_wp2_with fail
                go_roundw
                case rel => exact ⟨i + 1, out ++ [x], by omega, by go_num, by simp; omega, HR.out, HG2.out, by rw [← HK.out, HKB.out, HQ.out]; simp⟩
                case measure => simp [intOf]; omega
              · rw [Bool.not_eq_true] at hq
                have hu' := hu.trans (show _ = Value.bool false by rw [hq]; rfl)
                subst hu'
                clear hu
                have HQ := Lib.hid hq
                clear hq
                have HR := Lib.hid (row_keeps r5.out F6)
                have HG2 := Lib.hid (HFF.out.trans F6)
                clear F6
                go_wp2_with fail
                go_roundw
                case rel => exact ⟨i + 1, out, by omega, by go_num, by omega, HR.out, HG2.out, by rw [← HK.out, HKB.out, HQ.out]; simp⟩
                case measure => simp [intOf]; omega
    · obtain rfl : i = s.length := by omega
      rw [List.drop_length] at hk
      have hk' : out = keepS vs s := by rw [← hk]; simp [keepS]
      rw [hk'] at hr
      have HR := Lib.hid (row_more hr HF1.out.size)
      have HG := Lib.hid (HF1.out.trans F)
      obtain ⟨ao, co, rfl, -, -⟩ := row_cell hr
      clear hk' hk hr F
      go_wp2_with fail
      go_ret
      rw [HSO.out]
      exact ⟨⟨_, rfl, HR.out⟩, HG.out⟩
end Go.Proofs.Yteahponbknljlaa.Mx
