/- Layer 16's known case. -/
import Derived.Test.YtfchbbhopfganaaLe2
namespace Go.Proofs.Ytfchbbhopfganaa.Le
open Go.RowKit Go.Proofs.Ytfchbbhopfganaa.Ar Go.Proofs.Ytfchbbhopfganaa.Mx
set_option linter.unusedVariables false
set_option linter.unusedSimpArgs false
set_option maxRecDepth 100000
def sK : St := Pl.begun 1 3 100
def yK : Lx := Lx.new 15 false
def sK8 : St := (runL 8 yK sK).2
def yK8 : Lx := (runL 8 yK sK).1
theorem endK : yK8.ln = 11 ∧ yK8.rl = 15 ∧ yK8.rm = 0 ∧ yK8.ra = 0 ∧ yK8.dw = true := by decide +kernel
theorem runK : ∀ k, k < 8 → (runL k yK sK).1.ln ≠ 11 := by decide +kernel
theorem pkK : peek sK8.l 17 = 1 ∧ peek sK8.l 18 = 15 ∧ peek sK8.l 19 = 1 := by decide +kernel
theorem newK (w : World) : Calls Try.prog 10 #[.agg #[.int .i64 1, .int .i64 3, .int .i64 100, .int .i64 1000], .int .i64 15, .bool false] w fun e w' => ∃ b, e = .returned (.pointer (some ⟨b, 0, none⟩)) ∧ w.heap.size ≤ b ∧ LeIs w' b yK ∧ Fr [] w w' := new_any ⟨1, 3, 100, 1000⟩ 15 false w
/-- Behind so many rounds. -/
def LeR (W : World) (b p q : Nat) (y : Lx) (s : St) (v : Value) (wr : World) : Prop := ∃ k, v = .int .i64 (k : Nat) ∧ k < 8 ∧ LeIs wr b (runL k y s).1 ∧ Ar wr p q (runL k y s).2 ∧ Fr [b, p, q] W wr
set_option maxHeartbeats 3200000 in
theorem known_true (w : World) : Calls Try.prog 4 #[] w fun e w' => e = .returned (.bool true) ∧ Fr [] w w' := by
  have isE := Er.isE
  go_enter Try.func4, Try.ntmps4
  go_wp2_with fail
  refine (Pl.conf_any 1 3 100 _).mono ?_; rintro e w1 ⟨rfl, F1⟩
  have G := F1.alloc (.cells #[.int .i64 1, .int .i64 3, .int .i64 100, .int .i64 1000] 25)
  have oc := Ob.new w1 25 #[.int .i64 1, .int .i64 3, .int .i64 100, .int .i64 1000]
  obtain ⟨c0, c1, c2, c3⟩ := Pl.cells4 oc
  have hcw := oc.lt
  have hw1 := F1.size
  clear F1
  go_wp2_with fail
  refine (Pl.make_yes 1 3 100 1000 (by decide) _).mono ?_; rintro e w2 ⟨p, q, rfl, hp, hq, A, F2⟩
  rw [sizeA] at hp hq
  replace oc := oc.up F2
  have hcw2 := oc.lt
  have hA2 := A.lt
  replace G := G.trans F2
  have hG := G.size
  have A : Ar w2 p q sK := A
  clear F2 c0 c1 c2 c3
  generalize hbc : w1.heap.size = bc at *
  have nqc : bc ≠ q := by omega
  have npc : bc ≠ p := by omega
  have hwq : w.heap.size ≤ q := by omega
  have hwp : w.heap.size ≤ p := by omega
  have hwc : w.heap.size ≤ bc := by omega
  obtain ⟨c0, c1, c2, c3⟩ := Pl.cells4 oc
  go_wp2_with fail
  refine wp_region_free (by kernel_rfl) ?_
  refine any_envL [] w2 #[true, true, true, false, false] 3 2 rfl ?_
  refine envT_pass [true, true, true, false, false] 0 (n := 85) (listed' := #[true, true, true, false, false]) rfl (by kernel_rfl) (by kernel_rfl) (by kernel_rfl) (by kernel_rfl) (by kernel_rfl) rfl (by kernel_rfl) (fun _ _ d _ _ h => by cases d <;> exact h) ((Fr.refl _ w2).drew) ?_
  apply Exists.intro
  refine ⟨fun wf Ff => ?_, ?_⟩
  · have k0 := In.cell (Ff.cell c0 (by simp))
    have k1 := In.cell (Ff.cell c1 (by simp))
    have k2 := In.cell (Ff.cell c2 (by simp))
    have k3 := In.cell (Ff.cell c3 (by simp))
    simp only [sel]
    repeat (go_big_quiet_step ((go_at_call 14; exact Calls.in_ (Pl.first_any 1 3 100 1000 (by decide) (by decide) _))))
    exact wpQuiet_nil rfl
  refine envL_tail (k := 3) rfl (by kernel_rfl) (fun w5 F5 => ?_)
  have D5 := (Fr.refl [] w2).drew.trans F5
  have A5 := A.kept D5 (by simp) (by simp)
  have oc5 := oc.up D5
  have hcl := oc5.lt
  have hA5 := A5.lt
  have G5 := G.trans D5
  clear F5 D5 c0 c1 c2 c3 A oc G hG hcw hcw2 hA2 hp hq hw1
  rw [show (3 + 1 + 4 + 7 : Int) = 15 by decide]
  go_wp2_with fail
  refine (newK _).mono ?_; rintro e w4 ⟨b, rfl, hb, D, F4⟩
  have A := A5.kept F4 (by simp) (by simp)
  have oc := oc5.up F4
  have G := G5.trans F4
  have hG5 := G5.size
  have HN := Lib.hid (show (b ≠ p ∧ b ≠ q) ∧ (bc ≠ b ∧ bc ≠ p ∧ bc ≠ q) ∧ (w.heap.size ≤ b ∧ w.heap.size ≤ p ∧ w.heap.size ≤ q ∧ w.heap.size ≤ bc) by omega)
  have HO := Lib.hid oc
  have HG := Lib.hid G
  clear F4 hcl hA5 hb oc G hbc nqc npc hwq hwp hwc A5 oc5 G5 hG5
  go_wp2_with fail
  go_loopw [5] (LeR w4 b p q yK sK) (fun v _ => 20 - (intOf v).toNat)
  case atStart => exact ⟨0, rfl, by omega, D, A, Fr.refl _ _⟩
  · skip
    obtain ⟨k, rfl, hk8, D2, A2, F2⟩ := hrel
    have HS := Lib.hid (lstep_any (run_ln (y := yK) (s := sK) (by decide) k) D2 A2 HN.out.1)
    have HF := Lib.hid F2
    have g1 : decide ((k : Int) < 20) = true := by simp; omega
    clear D2 A2 F2 D A
    go_wp2_with fail
    refine HS.out.mono ?_; rintro e w6 ⟨rfl, D3, A3, F3⟩
    have HF4 := Lib.hid (HF.out.trans F3)
    clear HF F3
    by_cases hk : k < 7
    · have g3 : decide (((runL k yK sK).1.go (runL k yK sK).2).1.ln = 11) = false := by simp; exact runK (k + 1) (by omega)
      go_wp2_with fail
      go_roundw
      case rel => exact ⟨k + 1, by simp, by omega, D3, A3, HF4.out⟩
      case measure => simp [intOf]; omega
    · obtain rfl : k = 7 := by omega
      have g3 : decide (((runL 7 yK sK).1.go (runL 7 yK sK).2).1.ln = 11) = true := by simp; exact endK.1
      have D4 : LeIs w6 b yK8 := D3
      have A4 : Ar w6 p q sK8 := A3
      have HA := Lib.hid A4
      have HD := Lib.hid D4
      have HV := Lib.hid (lchk_any D4)
      rw [endK.2.1, endK.2.2.1, endK.2.2.2.1] at HV
      have HW := Lib.hid (ldrw_any D4)
      rw [endK.2.2.2.2] at HW
      have o5 := HO.out.kept HF4.out (by simp; exact HN.out.2.1)
      have HG6 := Lib.hid (HG.out.own HF4.out (by simp; exact ⟨HN.out.2.2.1, HN.out.2.2.2.1, HN.out.2.2.2.2.1⟩))
      obtain ⟨c0, c1, c2, c3⟩ := Pl.cells4 o5
      clear D3 A3 HS D4 A4 HF4 o5 HG HO
      go_wp2_with fail
      refine HV.out.mono ?_; rintro e _ ⟨rfl, rfl⟩
      go_wp2_with fail
      refine (Pl.first_any 1 3 100 1000 (by decide) (by decide) _).mono ?_; rintro e w7 ⟨rfl, F7⟩
      have HW7 := Lib.hid (ldrw_any (HD.out.up F7))
      rw [endK.2.2.2.2] at HW7
      have HA7 := Lib.hid (HA.out.kept F7 (by simp) (by simp))
      have HG7 := Lib.hid (HG6.out.trans F7)
      clear F7 HV HW HA HD HG6 c0 c1 c2 c3
      rw [show (3 + 1 + 4 + 7 : Int) = 15 by decide]
      go_wp2_with fail
      refine HW7.out.mono ?_; rintro e _ ⟨rfl, rfl⟩
      go_wp2_with fail
      refine (peek_any _ p q _ _ HA7.out).mono ?_; rintro e _ ⟨rfl, rfl⟩
      rw [pkK.1]
      go_wp2_with fail
      refine (peek_any _ p q _ _ HA7.out).mono ?_; rintro e _ ⟨rfl, rfl⟩
      rw [pkK.2.1]
      go_wp2_with fail
      refine (peek_any _ p q _ _ HA7.out).mono ?_; rintro e _ ⟨rfl, rfl⟩
      rw [pkK.2.2]
      go_wp2_with fail
      go_ret
      exact ⟨rfl, HG7.out⟩
end Go.Proofs.Ytfchbbhopfganaa.Le
