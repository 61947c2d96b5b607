/- The reference's Latest (layer 8). -/
import Derived.Test.YteahponbknljlaaLat8
namespace Go.Proofs.Yteahponbknljlaa.Kp
open Go.RowKit Go.Proofs.Yteahponbknljlaa.Ar Go.Proofs.Yteahponbknljlaa.Mx
set_option linter.unusedVariables false
set_option linter.unusedSimpArgs false
def RLtAt (w : World) (l : List It) (key version : Int) (p : Nat) (u8 u9 : Value) (wr : World) : Prop :=
  ∃ i : Nat, i ≤ l.length ∧ u9 = .int .i64 (i : Nat) ∧ ((foldL key version (l.take i) = none ∧ u8 = .int .i64 (-1)) ∨ ∃ (j : Nat) (c : It), foldL key version (l.take i) = some c ∧ u8 = .int .i64 (j : Nat) ∧ l[j]? = some c) ∧
    wr.heap[p]? = some (.cells #[.int .i64 0, .int .i64 0, .int .i64 0] 26 (0, 0)) ∧ Fr [] w wr
theorem neg1 : ((-1 : Int) < 0) := by omega
set_option maxRecDepth 100000 in
set_option maxHeartbeats 3200000 in
theorem rlatest_any (l : List It) (v : Value) (key version : Int) (w : World) (hl : l.length ≤ 1000) (h : Sq fT w v l) :
    Calls Try.prog 11 #[v, .int .i64 key, .int .i64 version] w fun e w' => e = .returned (latV (latT l key version)) ∧ Fr [] w w' := by
  obtain ⟨av, cv, rfl, hcv, hmv, -⟩ := id h
  go_enter Try.func11, Try.ntmps11
  go_wp2_with fail
  go_loopw [8, 9] (RLtAt w l key version w.heap.size) (fun _ x _ => l.length - (match x with | .int _ z => z.toNat | _ => 0))
  case atStart => exact ⟨0, by omega, rfl, .inl ⟨rfl, rfl⟩, Go.heap_alloc_new w _, (Fr.refl [] w).alloc _⟩
  case round =>
    obtain ⟨i, hi, rfl, hb, hp, F⟩ := hrel
    by_cases hlt : i < l.length
    · obtain ⟨x, hx⟩ : ∃ x, l[i]? = some x := ⟨l[i], List.getElem?_eq_getElem hlt⟩
      have hltz : (i : Int) < (l.length : Int) := by omega
      have hi0 : (0 : Int) ≤ (i : Int) := by omega
      have hin : ((i : Int)).toNat = i := by omega
      have HS := Lib.hid (foldL_step (k := key) (v := version) hx)
      have hS := h.up F
      obtain ⟨gs, os, rfl, x0, x1, x2⟩ := it_cells hS hx
      have HQ := Lib.hid (And.intro hp F)
      have HX := Lib.hid hx
      rcases hb with ⟨hfo, rfl⟩ | ⟨j, c, hfo, rfl, hj⟩
      · have HO := Lib.hid hfo
        clear hx hp F h hS hfo
        by_cases hk : x.k = key
        · obtain rfl := hk
          by_cases hv : x.v ≤ version
          · have hvb : decide (x.v ≤ version) = true := decide_eq_true hv
            go_wp2_with fail
            refine wp_region_in (by kernel_rfl) (by kernel_rfl) ?_
            have k0 := In.cell x0
            have k1 := In.cell x1
            repeat (go_big_quiet_step (fail))
            refine wpQuiet_nil ?_
            intro w1 F1
            clear k0 k1
            go_wp2_with fail
            go_roundw
            case rel => exact ⟨i + 1, by omega, by simp, .inr ⟨i, x, by rw [HS.out, HO.out, lat1_new (by omega) (by simp)], rfl, HX.out⟩, F1.heap HQ.out.1 (by simp), HQ.out.2.trans F1⟩
            case measure => simp; omega
          · have hvb : decide (x.v ≤ version) = false := decide_eq_false hv
            go_wp2_with fail
            refine wp_region_in (by kernel_rfl) (by kernel_rfl) ?_
            have k0 := In.cell x0
            have k1 := In.cell x1
            repeat (go_big_quiet_step (fail))
            refine wpQuiet_nil ?_
            intro w1 F1
            clear k0 k1
            go_wp2_with fail
            go_roundw
            case rel => exact ⟨i + 1, by omega, by simp, .inl ⟨by rw [HS.out, HO.out, lat1_old (fun hh => by omega)], rfl⟩, F1.heap HQ.out.1 (by simp), HQ.out.2.trans F1⟩
            case measure => simp; omega
        · have hkn : (x.k == key) = false := by simpa using hk
          go_wp2_with fail
          refine wp_region_in (by kernel_rfl) (by kernel_rfl) ?_
          have k0 := In.cell x0
          have k1 := In.cell x1
          repeat (go_big_quiet_step (fail))
          refine wpQuiet_nil ?_
          intro w1 F1
          clear k0 k1
          go_wp2_with fail
          go_roundw
          case rel => exact ⟨i + 1, by omega, by simp, .inl ⟨by rw [HS.out, HO.out, lat1_old (fun hh => by omega)], rfl⟩, F1.heap HQ.out.1 (by simp), HQ.out.2.trans F1⟩
          case measure => simp; omega
      · have hjl : j < l.length := (List.getElem?_eq_some_iff.1 hj).1
        have hjz : (j : Int) < (l.length : Int) := by omega
        have hj0 : (0 : Int) ≤ (j : Int) := by omega
        have hjn : decide ((j : Int) < 0) = false := decide_eq_false (by omega)
        have hjt : ((j : Int)).toNat = j := by omega
        obtain ⟨gs2, os2, e1, y0, y1, y2⟩ := it_cells hS hj
        cases e1
        have HO := Lib.hid (And.intro hfo hj)
        clear hx hp F h hS hfo hj
        by_cases hk : x.k = key
        · obtain rfl := hk
          by_cases hv : x.v ≤ version
          · have hvb : decide (x.v ≤ version) = true := decide_eq_true hv
            by_cases hvv : c.v ≤ x.v
            · skip
              go_wp2_with fail
              refine wp_region_in (by kernel_rfl) (by kernel_rfl) ?_
              have k0 := In.cell x0
              have k1 := In.cell x1
              have l1 := In.cell y1
              repeat (go_big_quiet_step (fail))
              refine wpQuiet_nil ?_
              intro w1 F1
              clear k0 k1 l1
              go_wp2_with fail
              go_roundw
              case rel => exact ⟨i + 1, by omega, by simp, .inr ⟨i, x, by rw [HS.out, HO.out.1, lat1_new (by omega) (by simpa using hvv)], rfl, HX.out⟩, F1.heap HQ.out.1 (by simp), HQ.out.2.trans F1⟩
              case measure => simp; omega
            · skip
              go_wp2_with fail
              refine wp_region_in (by kernel_rfl) (by kernel_rfl) ?_
              have k0 := In.cell x0
              have k1 := In.cell x1
              have l1 := In.cell y1
              repeat (go_big_quiet_step (fail))
              refine wpQuiet_nil ?_
              intro w1 F1
              clear k0 k1 l1
              go_wp2_with fail
              go_roundw
              case rel => exact ⟨i + 1, by omega, by simp, .inr ⟨j, c, by rw [HS.out, HO.out.1, lat1_less (by omega)], rfl, HO.out.2⟩, F1.heap HQ.out.1 (by simp), HQ.out.2.trans F1⟩
              case measure => simp; omega
          · have hvb : decide (x.v ≤ version) = false := decide_eq_false hv
            go_wp2_with fail
            refine wp_region_in (by kernel_rfl) (by kernel_rfl) ?_
            have k0 := In.cell x0
            have k1 := In.cell x1
            have l1 := In.cell y1
            repeat (go_big_quiet_step (fail))
            refine wpQuiet_nil ?_
            intro w1 F1
            clear k0 k1 l1
            go_wp2_with fail
            go_roundw
            case rel => exact ⟨i + 1, by omega, by simp, .inr ⟨j, c, by rw [HS.out, HO.out.1, lat1_old (fun hh => by omega)], rfl, HO.out.2⟩, F1.heap HQ.out.1 (by simp), HQ.out.2.trans F1⟩
            case measure => simp; omega
        · have hkn : (x.k == key) = false := by simpa using hk
          go_wp2_with fail
          refine wp_region_in (by kernel_rfl) (by kernel_rfl) ?_
          have k0 := In.cell x0
          have k1 := In.cell x1
          have l1 := In.cell y1
          repeat (go_big_quiet_step (fail))
          refine wpQuiet_nil ?_
          intro w1 F1
          clear k0 k1 l1
          go_wp2_with fail
          go_roundw
          case rel => exact ⟨i + 1, by omega, by simp, .inr ⟨j, c, by rw [HS.out, HO.out.1, lat1_old (fun hh => by omega)], rfl, HO.out.2⟩, F1.heap HQ.out.1 (by simp), HQ.out.2.trans F1⟩
          case measure => simp; omega
    · have hltz : ¬ (i : Int) < (l.length : Int) := by omega
      have hie : l.length ≤ i := by omega
      have HF := Lib.hid (And.intro hp F)
      obtain ⟨p0, p1, p2⟩ := cells3 hp
      have f0 := Ob.frozen hp 0
      have f1 := Ob.frozen hp 1
      have f2 := Ob.frozen hp 2
      rw [List.take_of_length_le hie] at hb
      rcases hb with ⟨hfo, rfl⟩ | ⟨j, c, hfo, rfl, hj⟩
      · have HO := Lib.hid hfo
        clear hp F h hfo
        go_wp2_with fail
        obtain ⟨e0, e1, e2⟩ := cells3 (set3 HF.out.1 (.int .i64 0) (.int .i64 0) (.int .i64 0))
        have HR := Lib.hid (fr3 HF.out.2 (.int .i64 0) (.int .i64 0) (.int .i64 0) (Nat.le_refl w.heap.size))
        generalize ((wr.setCell ⟨w.heap.size, 0, none⟩ (.int .i64 0)).setCell ⟨w.heap.size, 1, none⟩ (.int .i64 0)).setCell ⟨w.heap.size, 2, none⟩ (.int .i64 0) = w9 at *
        refine bodyPost_ret (v := .tuple #[.agg #[.int .i64 0, .int .i64 0, .int .i64 0], .bool false]) (by simp [results, Try.results11, go_sem, e0, e1, e2]) rfl ⟨?_, HR.out⟩
        rw [show latT l key version = none from HO.out]; rfl
      · have hjl : j < l.length := (List.getElem?_eq_some_iff.1 hj).1
        have hjz : (j : Int) < (l.length : Int) := by omega
        have hj0 : (0 : Int) ≤ (j : Int) := by omega
        have hjn : ¬ (j : Int) < 0 := by omega
        have hjt : ((j : Int)).toNat = j := by omega
        have HO := Lib.hid hfo
        obtain ⟨gs, os, rfl, y0, y1, y2⟩ := it_cells (h.up F) hj
        clear hp F h hfo hj
        go_wp2_with fail
        obtain ⟨e0, e1, e2⟩ := cells3 (set3 HF.out.1 (.int .i64 c.k) (.int .i64 c.v) (.int .i64 c.d))
        have HR := Lib.hid (fr3 HF.out.2 (.int .i64 c.k) (.int .i64 c.v) (.int .i64 c.d) (Nat.le_refl w.heap.size))
        generalize ((wr.setCell ⟨w.heap.size, 0, none⟩ (.int .i64 c.k)).setCell ⟨w.heap.size, 1, none⟩ (.int .i64 c.v)).setCell ⟨w.heap.size, 2, none⟩ (.int .i64 c.d) = w9 at *
        refine bodyPost_ret (v := .tuple #[.agg #[.int .i64 c.k, .int .i64 c.v, .int .i64 c.d], .bool true]) (by simp [results, Try.results11, go_sem, e0, e1, e2]) rfl ⟨?_, HR.out⟩
        rw [show latT l key version = some c from HO.out]; rfl
end Go.Proofs.Yteahponbknljlaa.Kp
