/- The developers' lead: a step. -/
import Derived.Test.YtfchbbhopfganaaLe1
import Derived.Maps.RangeWalk
namespace Go.Proofs.Ytfchbbhopfganaa.Le
open Go.RowKit Go.Proofs.Ytfchbbhopfganaa.Ar Go.Proofs.Ytfchbbhopfganaa.Mx
set_option linter.unusedVariables false
set_option linter.unusedSimpArgs false
section
variable {w : World} {b o p q : Nat} {T : TypeId} {pre post : Array Value} {y : Lx} {s : St}
def PostS (w : World) (b p q : Nat) (T : TypeId) (pre post : Array Value) (y : Lx) (s : St) (e : Ending) (w' : World) : Prop := e = .returned (.bool (decide (y.ln = 11))) ∧ LxAt w' b T pre post y ∧ Ar w' p q s ∧ Fr [b, p, q] w w'
def Kp3 (w : World) (b o p q : Nat) (k : Int) (w' : World) : Prop := Fr [b, p, q] w w' ∧ w'.cell? ⟨b, o + 3, none⟩ = some (.int .i64 k)
theorem Kp3.up (w : World) (b o p q : Nat) (k : Int) : ∀ w1 w2, Kp3 w b o p q k w1 → Fr [] w1 w2 → Kp3 w b o p q k w2 := fun w1 w2 h f => ⟨h.1.then f, f.cell h.2 (by simp)⟩
def Lx.fin (yd : Lx) (v : Int) : Lx := { yd.put v with ln := (yd.put v).behL }
set_option maxHeartbeats 1600000 in
set_option maxRecDepth 100000 in
theorem step0 {yd : Lx} {v : Int} {s' : St} (hl : y.ln = 0) (hd : yd.ln = 0) (HS : Hid (∀ wz, Fr [] w wz → Calls Try.prog 22 #[.pointer (some ⟨b, o, none⟩), .pointer (some ⟨p, 0, none⟩)] wz fun e w' => e = .returned (.int .i64 v) ∧ LxAt w' b T pre post yd ∧ Ar w' p q s' ∧ Fr [b, p, q] wz w')) (h : LxAt w b T pre post y) (ho : pre.size = o) (hne : b ≠ p ∧ b ≠ q) : Calls Try.prog 11 #[.pointer (some ⟨b, o, none⟩), .pointer (some ⟨p, 0, none⟩)] w (PostS w b p q T pre post (yd.fin v) s') := by
  obtain ⟨c0, c1, c2, c3, c4, c5, c6, c7, c8, c9, c10, c11, c12, c13, c14⟩ := lx_cells h ho
  rw [hl] at c3
  have q0 : ((0 : Int) != 11) = true := by decide
  have HL := Lib.hid (And.intro hd ho)
  have HNE := Lib.hid hne
  have hpt : yd.put v = { yd with f0 := v } := by unfold Lx.put; simp [hd]
  obtain ⟨y6, hy6⟩ : ∃ y6 : Lx, y6 = yd.put v := ⟨_, rfl⟩
  have hbl : 0 ≤ y6.ln ∧ y6.ln ≤ 10 := by rw [hy6, hpt]; show 0 ≤ yd.ln ∧ yd.ln ≤ 10; omega
  have HBL := Lib.hid hbl
  rw [show yd.fin v = { y6 with ln := y6.behL } by rw [hy6]; rfl]
  rw [hpt] at hy6
  have HY6 := Lib.hid hy6
  clear hpt hl hd ho hne h hbl hy6 c0 c1 c2 c4 c5 c6 c7 c8 c9 c10 c11 c12 c13 c14
  go_enter Try.func11, Try.ntmps11
  go_wp2_with fail
  refine wp_region_free (by kernel_rfl) ?_
  refine take_move 0 rfl (by kernel_rfl) (by kernel_rfl) (by kernel_rfl) rfl (fun _ _ d _ _ h => by cases d <;> exact h) ?_
  go_frame
  simp only [Act.eval, Array.getD_eq_getD_getElem?, List.getElem?_toArray, List.getElem?_cons_zero, Option.getD_some]
  refine any_envC (Kp3 w b o p q 0) #[true, true, true, true, true, true, true, true, true, true, true, false] 10 1 rfl ?_
  refine envCT_pass (Kp3.up w b o p q 0) [false, true, true, true, true, true, true, false, true, true, false, false] 2 (n := 31) (listed' := #[true, true, true, true, true, true, true, false, true, true, false, false]) rfl (by kernel_rfl) (by kernel_rfl) (by kernel_rfl) (by kernel_rfl) (by kernel_rfl) rfl (by kernel_rfl) (fun _ _ d _ _ h => by cases d <;> exact h) ⟨(Fr.refl _ w).drew, ((Fr.refl [] w).drew).cell c3 (by simp)⟩ ?_
  apply Exists.intro
  refine ⟨fun wf Ff => ?_, ?_⟩
  · have k3 := In.cell Ff.2
    simp only [sel]
    repeat (go_big_quiet_step (fail))
    exact wpQuiet_nil rfl
  refine envC_one 7 (by kernel_rfl) rfl rfl (fun w3 F3 => ?_)
  have D3 := (Fr.refl [] w).drew.trans F3
  clear F3 c3
  go_wp2_with fail
  refine (HS.out _ D3).mono ?_; rintro e w4 ⟨rfl, h4, A4, F4⟩
  replace F4 : Fr [b, p, q] w w4 := (D3.mono (by simp)).trans F4
  clear D3
  have HP := Lib.hid (And.intro h4 (And.intro A4 F4))
  have cc : w4.cell? ⟨b, o + 3, none⟩ = some (.int .i64 0) := by have := (lx_cells h4 HL.out.2).2.2.2.1; rw [HL.out.1] at this; exact this
  have HC := Lib.hid cc
  clear h4 A4 F4 cc
  go_wp2_with fail
  refine nx_normal ⟨⟨HP.out.2.2, HC.out⟩, ?_⟩
  refine envC_one 10 (by kernel_rfl) rfl rfl (fun w4' F4' => ?_)
  have HP' := Lib.hid (And.intro (Pb.up HP.out.1 F4') (And.intro (HP.out.2.1.kept F4' (by simp) (by simp)) (HP.out.2.2.then F4')))
  have HC' := Lib.hid (F4'.cell HC.out (by simp))
  clear F4' HP HC
  go_wp2_with fail
  refine nx_normal ⟨⟨HP'.out.2.2, HC'.out⟩, ?_⟩
  refine envC_tail (k := 11) rfl (by kernel_rfl) (fun w5 F5 => ?_)
  have h5 : LxAt w5 b T pre post yd := Pb.up HP'.out.1 F5
  have A5 := HP'.out.2.1.kept F5 (by simp) (by simp)
  have D5 := HP'.out.2.2.then F5
  clear F5 HP' HC'
  have HP := Lib.hid (And.intro h5 (And.intro A5 D5))
  obtain ⟨c0, c1, c2, c3, c4, c5, c6, c7, c8, c9, c10, c11, c12, c13, c14⟩ := lx_cells h5 HL.out.2
  have z5 := h5.frozen
  clear h5 A5 D5
  rw [HL.out.1] at c3
  go_wp2_with fail
  have h6 : LxAt (w5.setCell ⟨b, o + 4, none⟩ (.int .i64 v)) b T pre post y6 := by rw [HY6.out]; exact Pb.set HP.out.1 HL.out.2 (i := 4) (by show 4 < 15; omega) (.int .i64 v)
  have A6 : Ar (w5.setCell ⟨b, o + 4, none⟩ (.int .i64 v)) p q s' := HP.out.2.1.kept (Fr.setCell (S := [b]) (b := b) _ (by simp)) (by simp; exact HNE.out.1.symm) (by simp; exact HNE.out.2.symm)
  have D6 := HP.out.2.2.setCell' (b := b) (i := o + 4) (.int .i64 v) (by simp)
  generalize (w5.setCell ⟨b, o + 4, none⟩ (.int .i64 v)) = w6 at *
  clear c0 c1 c2 c3 c4 c5 c6 c7 c8 c9 c10 c11 c12 c13 c14 z5
  refine (beh_any HBL.out h6 HL.out.2).mono ?_; rintro e w7 ⟨rfl, F7⟩
  have h7 : LxAt w7 b T pre post y6 := Pb.up h6 F7
  have HR := Lib.hid (And.intro h7 (And.intro (A6.kept F7 (by simp) (by simp)) (D6.then F7)))
  have z7 := h7.frozen
  obtain ⟨c0, c1, c2, c3, c4, c5, c6, c7, c8, c9, c10, c11, c12, c13, c14⟩ := lx_cells h7 HL.out.2
  clear h7 h6 A6 D6 F7 c0 c1 c2 c4 c5 c6 c7 c8 c9 c10 c11 c12 c13 c14
  generalize y6.behL = lb at *
  go_wp2_with fail
  go_ret
  obtain ⟨h7, A7, D7⟩ := HR.out
  refine ⟨?_, ?_, ?_, ?_⟩
  · first | rfl | (show Ending.returned (.bool (lb == 11)) = .returned (.bool (decide (lb = 11))); congr)
  · exact Pb.set h7 HL.out.2 (i := 3) (by show 3 < 15; omega) (.int .i64 lb)
  · exact A7.kept (Fr.setCell (S := [b]) (b := b) _ (by simp)) (by simp; exact HNE.out.1.symm) (by simp; exact HNE.out.2.symm)
  · exact D7.setCell' (b := b) _ (by simp)
set_option maxHeartbeats 1600000 in
set_option maxRecDepth 100000 in
theorem step1 {yd : Lx} {v : Int} {s' : St} (hl : y.ln = 1) (hd : yd.ln = 1) (HS : Hid (∀ wz, Fr [] w wz → Calls Try.prog 22 #[.pointer (some ⟨b, o, none⟩), .pointer (some ⟨p, 0, none⟩)] wz fun e w' => e = .returned (.int .i64 v) ∧ LxAt w' b T pre post yd ∧ Ar w' p q s' ∧ Fr [b, p, q] wz w')) (h : LxAt w b T pre post y) (ho : pre.size = o) (hne : b ≠ p ∧ b ≠ q) : Calls Try.prog 11 #[.pointer (some ⟨b, o, none⟩), .pointer (some ⟨p, 0, none⟩)] w (PostS w b p q T pre post (yd.fin v) s') := by
  obtain ⟨c0, c1, c2, c3, c4, c5, c6, c7, c8, c9, c10, c11, c12, c13, c14⟩ := lx_cells h ho
  rw [hl] at c3
  have q0 : ((1 : Int) != 11) = true := by decide
  have HL := Lib.hid (And.intro hd ho)
  have HNE := Lib.hid hne
  have hpt : yd.put v = { yd with f1 := v } := by unfold Lx.put; simp [hd]
  obtain ⟨y6, hy6⟩ : ∃ y6 : Lx, y6 = yd.put v := ⟨_, rfl⟩
  have hbl : 0 ≤ y6.ln ∧ y6.ln ≤ 10 := by rw [hy6, hpt]; show 0 ≤ yd.ln ∧ yd.ln ≤ 10; omega
  have HBL := Lib.hid hbl
  rw [show yd.fin v = { y6 with ln := y6.behL } by rw [hy6]; rfl]
  rw [hpt] at hy6
  have HY6 := Lib.hid hy6
  clear hpt hl hd ho hne h hbl hy6 c0 c1 c2 c4 c5 c6 c7 c8 c9 c10 c11 c12 c13 c14
  go_enter Try.func11, Try.ntmps11
  go_wp2_with fail
  refine wp_region_free (by kernel_rfl) ?_
  refine take_move 0 rfl (by kernel_rfl) (by kernel_rfl) (by kernel_rfl) rfl (fun _ _ d _ _ h => by cases d <;> exact h) ?_
  go_frame
  simp only [Act.eval, Array.getD_eq_getD_getElem?, List.getElem?_toArray, List.getElem?_cons_zero, Option.getD_some]
  refine any_envC (Kp3 w b o p q 1) #[true, true, true, true, true, true, true, true, true, true, true, false] 10 1 rfl ?_
  refine envCT_pass (Kp3.up w b o p q 1) [false, true, true, true, true, true, true, false, true, true, false, false] 2 (n := 31) (listed' := #[true, true, true, true, true, true, true, false, true, true, false, false]) rfl (by kernel_rfl) (by kernel_rfl) (by kernel_rfl) (by kernel_rfl) (by kernel_rfl) rfl (by kernel_rfl) (fun _ _ d _ _ h => by cases d <;> exact h) ⟨(Fr.refl _ w).drew, ((Fr.refl [] w).drew).cell c3 (by simp)⟩ ?_
  apply Exists.intro
  refine ⟨fun wf Ff => ?_, ?_⟩
  · have k3 := In.cell Ff.2
    simp only [sel]
    repeat (go_big_quiet_step (fail))
    exact wpQuiet_nil rfl
  refine envC_one 7 (by kernel_rfl) rfl rfl (fun w3 F3 => ?_)
  have D3 := (Fr.refl [] w).drew.trans F3
  clear F3 c3
  go_wp2_with fail
  refine (HS.out _ D3).mono ?_; rintro e w4 ⟨rfl, h4, A4, F4⟩
  replace F4 : Fr [b, p, q] w w4 := (D3.mono (by simp)).trans F4
  clear D3
  have HP := Lib.hid (And.intro h4 (And.intro A4 F4))
  have cc : w4.cell? ⟨b, o + 3, none⟩ = some (.int .i64 1) := by have := (lx_cells h4 HL.out.2).2.2.2.1; rw [HL.out.1] at this; exact this
  have HC := Lib.hid cc
  clear h4 A4 F4 cc
  go_wp2_with fail
  refine nx_normal ⟨⟨HP.out.2.2, HC.out⟩, ?_⟩
  refine envC_one 10 (by kernel_rfl) rfl rfl (fun w4' F4' => ?_)
  have HP' := Lib.hid (And.intro (Pb.up HP.out.1 F4') (And.intro (HP.out.2.1.kept F4' (by simp) (by simp)) (HP.out.2.2.then F4')))
  have HC' := Lib.hid (F4'.cell HC.out (by simp))
  clear F4' HP HC
  go_wp2_with fail
  refine nx_normal ⟨⟨HP'.out.2.2, HC'.out⟩, ?_⟩
  refine envC_tail (k := 11) rfl (by kernel_rfl) (fun w5 F5 => ?_)
  have h5 : LxAt w5 b T pre post yd := Pb.up HP'.out.1 F5
  have A5 := HP'.out.2.1.kept F5 (by simp) (by simp)
  have D5 := HP'.out.2.2.then F5
  clear F5 HP' HC'
  have HP := Lib.hid (And.intro h5 (And.intro A5 D5))
  obtain ⟨c0, c1, c2, c3, c4, c5, c6, c7, c8, c9, c10, c11, c12, c13, c14⟩ := lx_cells h5 HL.out.2
  have z5 := h5.frozen
  clear h5 A5 D5
  rw [HL.out.1] at c3
  go_wp2_with fail
  have h6 : LxAt (w5.setCell ⟨b, o + 4 + 1, none⟩ (.int .i64 v)) b T pre post y6 := by rw [HY6.out]; exact Pb.set HP.out.1 HL.out.2 (i := 5) (by show 5 < 15; omega) (.int .i64 v)
  have A6 : Ar (w5.setCell ⟨b, o + 4 + 1, none⟩ (.int .i64 v)) p q s' := HP.out.2.1.kept (Fr.setCell (S := [b]) (b := b) _ (by simp)) (by simp; exact HNE.out.1.symm) (by simp; exact HNE.out.2.symm)
  have D6 := HP.out.2.2.setCell' (b := b) (i := o + 4 + 1) (.int .i64 v) (by simp)
  generalize (w5.setCell ⟨b, o + 4 + 1, none⟩ (.int .i64 v)) = w6 at *
  clear c0 c1 c2 c3 c4 c5 c6 c7 c8 c9 c10 c11 c12 c13 c14 z5
  refine (beh_any HBL.out h6 HL.out.2).mono ?_; rintro e w7 ⟨rfl, F7⟩
  have h7 : LxAt w7 b T pre post y6 := Pb.up h6 F7
  have HR := Lib.hid (And.intro h7 (And.intro (A6.kept F7 (by simp) (by simp)) (D6.then F7)))
  have z7 := h7.frozen
  obtain ⟨c0, c1, c2, c3, c4, c5, c6, c7, c8, c9, c10, c11, c12, c13, c14⟩ := lx_cells h7 HL.out.2
  clear h7 h6 A6 D6 F7 c0 c1 c2 c4 c5 c6 c7 c8 c9 c10 c11 c12 c13 c14
  generalize y6.behL = lb at *
  go_wp2_with fail
  go_ret
  obtain ⟨h7, A7, D7⟩ := HR.out
  refine ⟨?_, ?_, ?_, ?_⟩
  · first | rfl | (show Ending.returned (.bool (lb == 11)) = .returned (.bool (decide (lb = 11))); congr)
  · exact Pb.set h7 HL.out.2 (i := 3) (by show 3 < 15; omega) (.int .i64 lb)
  · exact A7.kept (Fr.setCell (S := [b]) (b := b) _ (by simp)) (by simp; exact HNE.out.1.symm) (by simp; exact HNE.out.2.symm)
  · exact D7.setCell' (b := b) _ (by simp)
set_option maxHeartbeats 1600000 in
set_option maxRecDepth 100000 in
theorem step2 {yd : Lx} {v : Int} {s' : St} (hl : y.ln = 2) (hd : yd.ln = 2) (HS : Hid (∀ wz, Fr [] w wz → Calls Try.prog 22 #[.pointer (some ⟨b, o, none⟩), .pointer (some ⟨p, 0, none⟩)] wz fun e w' => e = .returned (.int .i64 v) ∧ LxAt w' b T pre post yd ∧ Ar w' p q s' ∧ Fr [b, p, q] wz w')) (h : LxAt w b T pre post y) (ho : pre.size = o) (hne : b ≠ p ∧ b ≠ q) : Calls Try.prog 11 #[.pointer (some ⟨b, o, none⟩), .pointer (some ⟨p, 0, none⟩)] w (PostS w b p q T pre post (yd.fin v) s') := by
  obtain ⟨c0, c1, c2, c3, c4, c5, c6, c7, c8, c9, c10, c11, c12, c13, c14⟩ := lx_cells h ho
  rw [hl] at c3
  have q0 : ((2 : Int) != 11) = true := by decide
  have HL := Lib.hid (And.intro hd ho)
  have HNE := Lib.hid hne
  have hpt : yd.put v = { yd with f2 := v } := by unfold Lx.put; simp [hd]
  obtain ⟨y6, hy6⟩ : ∃ y6 : Lx, y6 = yd.put v := ⟨_, rfl⟩
  have hbl : 0 ≤ y6.ln ∧ y6.ln ≤ 10 := by rw [hy6, hpt]; show 0 ≤ yd.ln ∧ yd.ln ≤ 10; omega
  have HBL := Lib.hid hbl
  rw [show yd.fin v = { y6 with ln := y6.behL } by rw [hy6]; rfl]
  rw [hpt] at hy6
  have HY6 := Lib.hid hy6
  clear hpt hl hd ho hne h hbl hy6 c0 c1 c2 c4 c5 c6 c7 c8 c9 c10 c11 c12 c13 c14
  go_enter Try.func11, Try.ntmps11
  go_wp2_with fail
  refine wp_region_free (by kernel_rfl) ?_
  refine take_move 0 rfl (by kernel_rfl) (by kernel_rfl) (by kernel_rfl) rfl (fun _ _ d _ _ h => by cases d <;> exact h) ?_
  go_frame
  simp only [Act.eval, Array.getD_eq_getD_getElem?, List.getElem?_toArray, List.getElem?_cons_zero, Option.getD_some]
  refine any_envC (Kp3 w b o p q 2) #[true, true, true, true, true, true, true, true, true, true, true, false] 10 1 rfl ?_
  refine envCT_pass (Kp3.up w b o p q 2) [false, true, true, true, true, true, true, false, true, true, false, false] 2 (n := 31) (listed' := #[true, true, true, true, true, true, true, false, true, true, false, false]) rfl (by kernel_rfl) (by kernel_rfl) (by kernel_rfl) (by kernel_rfl) (by kernel_rfl) rfl (by kernel_rfl) (fun _ _ d _ _ h => by cases d <;> exact h) ⟨(Fr.refl _ w).drew, ((Fr.refl [] w).drew).cell c3 (by simp)⟩ ?_
  apply Exists.intro
  refine ⟨fun wf Ff => ?_, ?_⟩
  · have k3 := In.cell Ff.2
    simp only [sel]
    repeat (go_big_quiet_step (fail))
    exact wpQuiet_nil rfl
  refine envC_one 7 (by kernel_rfl) rfl rfl (fun w3 F3 => ?_)
  have D3 := (Fr.refl [] w).drew.trans F3
  clear F3 c3
  go_wp2_with fail
  refine (HS.out _ D3).mono ?_; rintro e w4 ⟨rfl, h4, A4, F4⟩
  replace F4 : Fr [b, p, q] w w4 := (D3.mono (by simp)).trans F4
  clear D3
  have HP := Lib.hid (And.intro h4 (And.intro A4 F4))
  have cc : w4.cell? ⟨b, o + 3, none⟩ = some (.int .i64 2) := by have := (lx_cells h4 HL.out.2).2.2.2.1; rw [HL.out.1] at this; exact this
  have HC := Lib.hid cc
  clear h4 A4 F4 cc
  go_wp2_with fail
  refine nx_normal ⟨⟨HP.out.2.2, HC.out⟩, ?_⟩
  refine envC_one 10 (by kernel_rfl) rfl rfl (fun w4' F4' => ?_)
  have HP' := Lib.hid (And.intro (Pb.up HP.out.1 F4') (And.intro (HP.out.2.1.kept F4' (by simp) (by simp)) (HP.out.2.2.then F4')))
  have HC' := Lib.hid (F4'.cell HC.out (by simp))
  clear F4' HP HC
  go_wp2_with fail
  refine nx_normal ⟨⟨HP'.out.2.2, HC'.out⟩, ?_⟩
  refine envC_tail (k := 11) rfl (by kernel_rfl) (fun w5 F5 => ?_)
  have h5 : LxAt w5 b T pre post yd := Pb.up HP'.out.1 F5
  have A5 := HP'.out.2.1.kept F5 (by simp) (by simp)
  have D5 := HP'.out.2.2.then F5
  clear F5 HP' HC'
  have HP := Lib.hid (And.intro h5 (And.intro A5 D5))
  obtain ⟨c0, c1, c2, c3, c4, c5, c6, c7, c8, c9, c10, c11, c12, c13, c14⟩ := lx_cells h5 HL.out.2
  have z5 := h5.frozen
  clear h5 A5 D5
  rw [HL.out.1] at c3
  go_wp2_with fail
  have h6 : LxAt (w5.setCell ⟨b, o + 4 + 2, none⟩ (.int .i64 v)) b T pre post y6 := by rw [HY6.out]; exact Pb.set HP.out.1 HL.out.2 (i := 6) (by show 6 < 15; omega) (.int .i64 v)
  have A6 : Ar (w5.setCell ⟨b, o + 4 + 2, none⟩ (.int .i64 v)) p q s' := HP.out.2.1.kept (Fr.setCell (S := [b]) (b := b) _ (by simp)) (by simp; exact HNE.out.1.symm) (by simp; exact HNE.out.2.symm)
  have D6 := HP.out.2.2.setCell' (b := b) (i := o + 4 + 2) (.int .i64 v) (by simp)
  generalize (w5.setCell ⟨b, o + 4 + 2, none⟩ (.int .i64 v)) = w6 at *
  clear c0 c1 c2 c3 c4 c5 c6 c7 c8 c9 c10 c11 c12 c13 c14 z5
  refine (beh_any HBL.out h6 HL.out.2).mono ?_; rintro e w7 ⟨rfl, F7⟩
  have h7 : LxAt w7 b T pre post y6 := Pb.up h6 F7
  have HR := Lib.hid (And.intro h7 (And.intro (A6.kept F7 (by simp) (by simp)) (D6.then F7)))
  have z7 := h7.frozen
  obtain ⟨c0, c1, c2, c3, c4, c5, c6, c7, c8, c9, c10, c11, c12, c13, c14⟩ := lx_cells h7 HL.out.2
  clear h7 h6 A6 D6 F7 c0 c1 c2 c4 c5 c6 c7 c8 c9 c10 c11 c12 c13 c14
  generalize y6.behL = lb at *
  go_wp2_with fail
  go_ret
  obtain ⟨h7, A7, D7⟩ := HR.out
  refine ⟨?_, ?_, ?_, ?_⟩
  · first | rfl | (show Ending.returned (.bool (lb == 11)) = .returned (.bool (decide (lb = 11))); congr)
  · exact Pb.set h7 HL.out.2 (i := 3) (by show 3 < 15; omega) (.int .i64 lb)
  · exact A7.kept (Fr.setCell (S := [b]) (b := b) _ (by simp)) (by simp; exact HNE.out.1.symm) (by simp; exact HNE.out.2.symm)
  · exact D7.setCell' (b := b) _ (by simp)
set_option maxHeartbeats 1600000 in
set_option maxRecDepth 100000 in
theorem step3 {yd : Lx} {v : Int} {s' : St} (hl : y.ln = 3) (hd : yd.ln = 3) (HS : Hid (∀ wz, Fr [] w wz → Calls Try.prog 22 #[.pointer (some ⟨b, o, none⟩), .pointer (some ⟨p, 0, none⟩)] wz fun e w' => e = .returned (.int .i64 v) ∧ LxAt w' b T pre post yd ∧ Ar w' p q s' ∧ Fr [b, p, q] wz w')) (h : LxAt w b T pre post y) (ho : pre.size = o) (hne : b ≠ p ∧ b ≠ q) : Calls Try.prog 11 #[.pointer (some ⟨b, o, none⟩), .pointer (some ⟨p, 0, none⟩)] w (PostS w b p q T pre post (yd.fin v) s') := by
  obtain ⟨c0, c1, c2, c3, c4, c5, c6, c7, c8, c9, c10, c11, c12, c13, c14⟩ := lx_cells h ho
  rw [hl] at c3
  have q0 : ((3 : Int) != 11) = true := by decide
  have HL := Lib.hid (And.intro hd ho)
  have HNE := Lib.hid hne
  have hpt : yd.put v = { yd with f3 := v } := by unfold Lx.put; simp [hd]
  obtain ⟨y6, hy6⟩ : ∃ y6 : Lx, y6 = yd.put v := ⟨_, rfl⟩
  have hbl : 0 ≤ y6.ln ∧ y6.ln ≤ 10 := by rw [hy6, hpt]; show 0 ≤ yd.ln ∧ yd.ln ≤ 10; omega
  have HBL := Lib.hid hbl
  rw [show yd.fin v = { y6 with ln := y6.behL } by rw [hy6]; rfl]
  rw [hpt] at hy6
  have HY6 := Lib.hid hy6
  clear hpt hl hd ho hne h hbl hy6 c0 c1 c2 c4 c5 c6 c7 c8 c9 c10 c11 c12 c13 c14
  go_enter Try.func11, Try.ntmps11
  go_wp2_with fail
  refine wp_region_free (by kernel_rfl) ?_
  refine take_move 0 rfl (by kernel_rfl) (by kernel_rfl) (by kernel_rfl) rfl (fun _ _ d _ _ h => by cases d <;> exact h) ?_
  go_frame
  simp only [Act.eval, Array.getD_eq_getD_getElem?, List.getElem?_toArray, List.getElem?_cons_zero, Option.getD_some]
  refine any_envC (Kp3 w b o p q 3) #[true, true, true, true, true, true, true, true, true, true, true, false] 10 1 rfl ?_
  refine envCT_pass (Kp3.up w b o p q 3) [false, true, true, true, true, true, true, false, true, true, false, false] 2 (n := 31) (listed' := #[true, true, true, true, true, true, true, false, true, true, false, false]) rfl (by kernel_rfl) (by kernel_rfl) (by kernel_rfl) (by kernel_rfl) (by kernel_rfl) rfl (by kernel_rfl) (fun _ _ d _ _ h => by cases d <;> exact h) ⟨(Fr.refl _ w).drew, ((Fr.refl [] w).drew).cell c3 (by simp)⟩ ?_
  apply Exists.intro
  refine ⟨fun wf Ff => ?_, ?_⟩
  · have k3 := In.cell Ff.2
    simp only [sel]
    repeat (go_big_quiet_step (fail))
    exact wpQuiet_nil rfl
  refine envC_one 7 (by kernel_rfl) rfl rfl (fun w3 F3 => ?_)
  have D3 := (Fr.refl [] w).drew.trans F3
  clear F3 c3
  go_wp2_with fail
  refine (HS.out _ D3).mono ?_; rintro e w4 ⟨rfl, h4, A4, F4⟩
  replace F4 : Fr [b, p, q] w w4 := (D3.mono (by simp)).trans F4
  clear D3
  have HP := Lib.hid (And.intro h4 (And.intro A4 F4))
  have cc : w4.cell? ⟨b, o + 3, none⟩ = some (.int .i64 3) := by have := (lx_cells h4 HL.out.2).2.2.2.1; rw [HL.out.1] at this; exact this
  have HC := Lib.hid cc
  clear h4 A4 F4 cc
  go_wp2_with fail
  refine nx_normal ⟨⟨HP.out.2.2, HC.out⟩, ?_⟩
  refine envC_one 10 (by kernel_rfl) rfl rfl (fun w4' F4' => ?_)
  have HP' := Lib.hid (And.intro (Pb.up HP.out.1 F4') (And.intro (HP.out.2.1.kept F4' (by simp) (by simp)) (HP.out.2.2.then F4')))
  have HC' := Lib.hid (F4'.cell HC.out (by simp))
  clear F4' HP HC
  go_wp2_with fail
  refine nx_normal ⟨⟨HP'.out.2.2, HC'.out⟩, ?_⟩
  refine envC_tail (k := 11) rfl (by kernel_rfl) (fun w5 F5 => ?_)
  have h5 : LxAt w5 b T pre post yd := Pb.up HP'.out.1 F5
  have A5 := HP'.out.2.1.kept F5 (by simp) (by simp)
  have D5 := HP'.out.2.2.then F5
  clear F5 HP' HC'
  have HP := Lib.hid (And.intro h5 (And.intro A5 D5))
  obtain ⟨c0, c1, c2, c3, c4, c5, c6, c7, c8, c9, c10, c11, c12, c13, c14⟩ := lx_cells h5 HL.out.2
  have z5 := h5.frozen
  clear h5 A5 D5
  rw [HL.out.1] at c3
  go_wp2_with fail
  have h6 : LxAt (w5.setCell ⟨b, o + 4 + 3, none⟩ (.int .i64 v)) b T pre post y6 := by rw [HY6.out]; exact Pb.set HP.out.1 HL.out.2 (i := 7) (by show 7 < 15; omega) (.int .i64 v)
  have A6 : Ar (w5.setCell ⟨b, o + 4 + 3, none⟩ (.int .i64 v)) p q s' := HP.out.2.1.kept (Fr.setCell (S := [b]) (b := b) _ (by simp)) (by simp; exact HNE.out.1.symm) (by simp; exact HNE.out.2.symm)
  have D6 := HP.out.2.2.setCell' (b := b) (i := o + 4 + 3) (.int .i64 v) (by simp)
  generalize (w5.setCell ⟨b, o + 4 + 3, none⟩ (.int .i64 v)) = w6 at *
  clear c0 c1 c2 c3 c4 c5 c6 c7 c8 c9 c10 c11 c12 c13 c14 z5
  refine (beh_any HBL.out h6 HL.out.2).mono ?_; rintro e w7 ⟨rfl, F7⟩
  have h7 : LxAt w7 b T pre post y6 := Pb.up h6 F7
  have HR := Lib.hid (And.intro h7 (And.intro (A6.kept F7 (by simp) (by simp)) (D6.then F7)))
  have z7 := h7.frozen
  obtain ⟨c0, c1, c2, c3, c4, c5, c6, c7, c8, c9, c10, c11, c12, c13, c14⟩ := lx_cells h7 HL.out.2
  clear h7 h6 A6 D6 F7 c0 c1 c2 c4 c5 c6 c7 c8 c9 c10 c11 c12 c13 c14
  generalize y6.behL = lb at *
  go_wp2_with fail
  go_ret
  obtain ⟨h7, A7, D7⟩ := HR.out
  refine ⟨?_, ?_, ?_, ?_⟩
  · first | rfl | (show Ending.returned (.bool (lb == 11)) = .returned (.bool (decide (lb = 11))); congr)
  · exact Pb.set h7 HL.out.2 (i := 3) (by show 3 < 15; omega) (.int .i64 lb)
  · exact A7.kept (Fr.setCell (S := [b]) (b := b) _ (by simp)) (by simp; exact HNE.out.1.symm) (by simp; exact HNE.out.2.symm)
  · exact D7.setCell' (b := b) _ (by simp)
set_option maxHeartbeats 1600000 in
set_option maxRecDepth 100000 in
theorem step4 {yd : Lx} {v : Int} {s' : St} (hl : y.ln = 4) (hd : yd.ln = 4) (HS : Hid (∀ wz, Fr [] w wz → Calls Try.prog 22 #[.pointer (some ⟨b, o, none⟩), .pointer (some ⟨p, 0, none⟩)] wz fun e w' => e = .returned (.int .i64 v) ∧ LxAt w' b T pre post yd ∧ Ar w' p q s' ∧ Fr [b, p, q] wz w')) (h : LxAt w b T pre post y) (ho : pre.size = o) (hne : b ≠ p ∧ b ≠ q) : Calls Try.prog 11 #[.pointer (some ⟨b, o, none⟩), .pointer (some ⟨p, 0, none⟩)] w (PostS w b p q T pre post (yd.fin v) s') := by
  obtain ⟨c0, c1, c2, c3, c4, c5, c6, c7, c8, c9, c10, c11, c12, c13, c14⟩ := lx_cells h ho
  rw [hl] at c3
  have q0 : ((4 : Int) != 11) = true := by decide
  have HL := Lib.hid (And.intro hd ho)
  have HNE := Lib.hid hne
  have hpt : yd.put v = { yd with f4 := v } := by unfold Lx.put; simp [hd]
  obtain ⟨y6, hy6⟩ : ∃ y6 : Lx, y6 = yd.put v := ⟨_, rfl⟩
  have hbl : 0 ≤ y6.ln ∧ y6.ln ≤ 10 := by rw [hy6, hpt]; show 0 ≤ yd.ln ∧ yd.ln ≤ 10; omega
  have HBL := Lib.hid hbl
  rw [show yd.fin v = { y6 with ln := y6.behL } by rw [hy6]; rfl]
  rw [hpt] at hy6
  have HY6 := Lib.hid hy6
  clear hpt hl hd ho hne h hbl hy6 c0 c1 c2 c4 c5 c6 c7 c8 c9 c10 c11 c12 c13 c14
  go_enter Try.func11, Try.ntmps11
  go_wp2_with fail
  refine wp_region_free (by kernel_rfl) ?_
  refine take_move 0 rfl (by kernel_rfl) (by kernel_rfl) (by kernel_rfl) rfl (fun _ _ d _ _ h => by cases d <;> exact h) ?_
  go_frame
  simp only [Act.eval, Array.getD_eq_getD_getElem?, List.getElem?_toArray, List.getElem?_cons_zero, Option.getD_some]
  refine any_envC (Kp3 w b o p q 4) #[true, true, true, true, true, true, true, true, true, true, true, false] 10 1 rfl ?_
  refine envCT_pass (Kp3.up w b o p q 4) [false, true, true, true, true, true, true, false, true, true, false, false] 2 (n := 31) (listed' := #[true, true, true, true, true, true, true, false, true, true, false, false]) rfl (by kernel_rfl) (by kernel_rfl) (by kernel_rfl) (by kernel_rfl) (by kernel_rfl) rfl (by kernel_rfl) (fun _ _ d _ _ h => by cases d <;> exact h) ⟨(Fr.refl _ w).drew, ((Fr.refl [] w).drew).cell c3 (by simp)⟩ ?_
  apply Exists.intro
  refine ⟨fun wf Ff => ?_, ?_⟩
  · have k3 := In.cell Ff.2
    simp only [sel]
    repeat (go_big_quiet_step (fail))
    exact wpQuiet_nil rfl
  refine envC_one 7 (by kernel_rfl) rfl rfl (fun w3 F3 => ?_)
  have D3 := (Fr.refl [] w).drew.trans F3
  clear F3 c3
  go_wp2_with fail
  refine (HS.out _ D3).mono ?_; rintro e w4 ⟨rfl, h4, A4, F4⟩
  replace F4 : Fr [b, p, q] w w4 := (D3.mono (by simp)).trans F4
  clear D3
  have HP := Lib.hid (And.intro h4 (And.intro A4 F4))
  have cc : w4.cell? ⟨b, o + 3, none⟩ = some (.int .i64 4) := by have := (lx_cells h4 HL.out.2).2.2.2.1; rw [HL.out.1] at this; exact this
  have HC := Lib.hid cc
  clear h4 A4 F4 cc
  go_wp2_with fail
  refine nx_normal ⟨⟨HP.out.2.2, HC.out⟩, ?_⟩
  refine envC_one 10 (by kernel_rfl) rfl rfl (fun w4' F4' => ?_)
  have HP' := Lib.hid (And.intro (Pb.up HP.out.1 F4') (And.intro (HP.out.2.1.kept F4' (by simp) (by simp)) (HP.out.2.2.then F4')))
  have HC' := Lib.hid (F4'.cell HC.out (by simp))
  clear F4' HP HC
  go_wp2_with fail
  refine nx_normal ⟨⟨HP'.out.2.2, HC'.out⟩, ?_⟩
  refine envC_tail (k := 11) rfl (by kernel_rfl) (fun w5 F5 => ?_)
  have h5 : LxAt w5 b T pre post yd := Pb.up HP'.out.1 F5
  have A5 := HP'.out.2.1.kept F5 (by simp) (by simp)
  have D5 := HP'.out.2.2.then F5
  clear F5 HP' HC'
  have HP := Lib.hid (And.intro h5 (And.intro A5 D5))
  obtain ⟨c0, c1, c2, c3, c4, c5, c6, c7, c8, c9, c10, c11, c12, c13, c14⟩ := lx_cells h5 HL.out.2
  have z5 := h5.frozen
  clear h5 A5 D5
  rw [HL.out.1] at c3
  go_wp2_with fail
  have h6 : LxAt (w5.setCell ⟨b, o + 4 + 4, none⟩ (.int .i64 v)) b T pre post y6 := by rw [HY6.out]; exact Pb.set HP.out.1 HL.out.2 (i := 8) (by show 8 < 15; omega) (.int .i64 v)
  have A6 : Ar (w5.setCell ⟨b, o + 4 + 4, none⟩ (.int .i64 v)) p q s' := HP.out.2.1.kept (Fr.setCell (S := [b]) (b := b) _ (by simp)) (by simp; exact HNE.out.1.symm) (by simp; exact HNE.out.2.symm)
  have D6 := HP.out.2.2.setCell' (b := b) (i := o + 4 + 4) (.int .i64 v) (by simp)
  generalize (w5.setCell ⟨b, o + 4 + 4, none⟩ (.int .i64 v)) = w6 at *
  clear c0 c1 c2 c3 c4 c5 c6 c7 c8 c9 c10 c11 c12 c13 c14 z5
  refine (beh_any HBL.out h6 HL.out.2).mono ?_; rintro e w7 ⟨rfl, F7⟩
  have h7 : LxAt w7 b T pre post y6 := Pb.up h6 F7
  have HR := Lib.hid (And.intro h7 (And.intro (A6.kept F7 (by simp) (by simp)) (D6.then F7)))
  have z7 := h7.frozen
  obtain ⟨c0, c1, c2, c3, c4, c5, c6, c7, c8, c9, c10, c11, c12, c13, c14⟩ := lx_cells h7 HL.out.2
  clear h7 h6 A6 D6 F7 c0 c1 c2 c4 c5 c6 c7 c8 c9 c10 c11 c12 c13 c14
  generalize y6.behL = lb at *
  go_wp2_with fail
  go_ret
  obtain ⟨h7, A7, D7⟩ := HR.out
  refine ⟨?_, ?_, ?_, ?_⟩
  · first | rfl | (show Ending.returned (.bool (lb == 11)) = .returned (.bool (decide (lb = 11))); congr)
  · exact Pb.set h7 HL.out.2 (i := 3) (by show 3 < 15; omega) (.int .i64 lb)
  · exact A7.kept (Fr.setCell (S := [b]) (b := b) _ (by simp)) (by simp; exact HNE.out.1.symm) (by simp; exact HNE.out.2.symm)
  · exact D7.setCell' (b := b) _ (by simp)
set_option maxHeartbeats 1600000 in
set_option maxRecDepth 100000 in
theorem step5 {yd : Lx} {v : Int} {s' : St} (hl : y.ln = 5) (hd : yd.ln = 5) (HS : Hid (∀ wz, Fr [] w wz → Calls Try.prog 22 #[.pointer (some ⟨b, o, none⟩), .pointer (some ⟨p, 0, none⟩)] wz fun e w' => e = .returned (.int .i64 v) ∧ LxAt w' b T pre post yd ∧ Ar w' p q s' ∧ Fr [b, p, q] wz w')) (h : LxAt w b T pre post y) (ho : pre.size = o) (hne : b ≠ p ∧ b ≠ q) : Calls Try.prog 11 #[.pointer (some ⟨b, o, none⟩), .pointer (some ⟨p, 0, none⟩)] w (PostS w b p q T pre post (yd.fin v) s') := by
  obtain ⟨c0, c1, c2, c3, c4, c5, c6, c7, c8, c9, c10, c11, c12, c13, c14⟩ := lx_cells h ho
  rw [hl] at c3
  have q0 : ((5 : Int) != 11) = true := by decide
  have HL := Lib.hid (And.intro hd ho)
  have HNE := Lib.hid hne
  have hpt : yd.put v = { yd with f5 := v } := by unfold Lx.put; simp [hd]
  obtain ⟨y6, hy6⟩ : ∃ y6 : Lx, y6 = yd.put v := ⟨_, rfl⟩
  have hbl : 0 ≤ y6.ln ∧ y6.ln ≤ 10 := by rw [hy6, hpt]; show 0 ≤ yd.ln ∧ yd.ln ≤ 10; omega
  have HBL := Lib.hid hbl
  rw [show yd.fin v = { y6 with ln := y6.behL } by rw [hy6]; rfl]
  rw [hpt] at hy6
  have HY6 := Lib.hid hy6
  clear hpt hl hd ho hne h hbl hy6 c0 c1 c2 c4 c5 c6 c7 c8 c9 c10 c11 c12 c13 c14
  go_enter Try.func11, Try.ntmps11
  go_wp2_with fail
  refine wp_region_free (by kernel_rfl) ?_
  refine take_move 0 rfl (by kernel_rfl) (by kernel_rfl) (by kernel_rfl) rfl (fun _ _ d _ _ h => by cases d <;> exact h) ?_
  go_frame
  simp only [Act.eval, Array.getD_eq_getD_getElem?, List.getElem?_toArray, List.getElem?_cons_zero, Option.getD_some]
  refine any_envC (Kp3 w b o p q 5) #[true, true, true, true, true, true, true, true, true, true, true, false] 10 1 rfl ?_
  refine envCT_pass (Kp3.up w b o p q 5) [false, true, true, true, true, true, true, false, true, true, false, false] 2 (n := 31) (listed' := #[true, true, true, true, true, true, true, false, true, true, false, false]) rfl (by kernel_rfl) (by kernel_rfl) (by kernel_rfl) (by kernel_rfl) (by kernel_rfl) rfl (by kernel_rfl) (fun _ _ d _ _ h => by cases d <;> exact h) ⟨(Fr.refl _ w).drew, ((Fr.refl [] w).drew).cell c3 (by simp)⟩ ?_
  apply Exists.intro
  refine ⟨fun wf Ff => ?_, ?_⟩
  · have k3 := In.cell Ff.2
    simp only [sel]
    repeat (go_big_quiet_step (fail))
    exact wpQuiet_nil rfl
  refine envC_one 7 (by kernel_rfl) rfl rfl (fun w3 F3 => ?_)
  have D3 := (Fr.refl [] w).drew.trans F3
  clear F3 c3
  go_wp2_with fail
  refine (HS.out _ D3).mono ?_; rintro e w4 ⟨rfl, h4, A4, F4⟩
  replace F4 : Fr [b, p, q] w w4 := (D3.mono (by simp)).trans F4
  clear D3
  have HP := Lib.hid (And.intro h4 (And.intro A4 F4))
  have cc : w4.cell? ⟨b, o + 3, none⟩ = some (.int .i64 5) := by have := (lx_cells h4 HL.out.2).2.2.2.1; rw [HL.out.1] at this; exact this
  have HC := Lib.hid cc
  clear h4 A4 F4 cc
  go_wp2_with fail
  refine nx_normal ⟨⟨HP.out.2.2, HC.out⟩, ?_⟩
  refine envC_one 10 (by kernel_rfl) rfl rfl (fun w4' F4' => ?_)
  have HP' := Lib.hid (And.intro (Pb.up HP.out.1 F4') (And.intro (HP.out.2.1.kept F4' (by simp) (by simp)) (HP.out.2.2.then F4')))
  have HC' := Lib.hid (F4'.cell HC.out (by simp))
  clear F4' HP HC
  go_wp2_with fail
  refine nx_normal ⟨⟨HP'.out.2.2, HC'.out⟩, ?_⟩
  refine envC_tail (k := 11) rfl (by kernel_rfl) (fun w5 F5 => ?_)
  have h5 : LxAt w5 b T pre post yd := Pb.up HP'.out.1 F5
  have A5 := HP'.out.2.1.kept F5 (by simp) (by simp)
  have D5 := HP'.out.2.2.then F5
  clear F5 HP' HC'
  have HP := Lib.hid (And.intro h5 (And.intro A5 D5))
  obtain ⟨c0, c1, c2, c3, c4, c5, c6, c7, c8, c9, c10, c11, c12, c13, c14⟩ := lx_cells h5 HL.out.2
  have z5 := h5.frozen
  clear h5 A5 D5
  rw [HL.out.1] at c3
  go_wp2_with fail
  have h6 : LxAt (w5.setCell ⟨b, o + 4 + 5, none⟩ (.int .i64 v)) b T pre post y6 := by rw [HY6.out]; exact Pb.set HP.out.1 HL.out.2 (i := 9) (by show 9 < 15; omega) (.int .i64 v)
  have A6 : Ar (w5.setCell ⟨b, o + 4 + 5, none⟩ (.int .i64 v)) p q s' := HP.out.2.1.kept (Fr.setCell (S := [b]) (b := b) _ (by simp)) (by simp; exact HNE.out.1.symm) (by simp; exact HNE.out.2.symm)
  have D6 := HP.out.2.2.setCell' (b := b) (i := o + 4 + 5) (.int .i64 v) (by simp)
  generalize (w5.setCell ⟨b, o + 4 + 5, none⟩ (.int .i64 v)) = w6 at *
  clear c0 c1 c2 c3 c4 c5 c6 c7 c8 c9 c10 c11 c12 c13 c14 z5
  refine (beh_any HBL.out h6 HL.out.2).mono ?_; rintro e w7 ⟨rfl, F7⟩
  have h7 : LxAt w7 b T pre post y6 := Pb.up h6 F7
  have HR := Lib.hid (And.intro h7 (And.intro (A6.kept F7 (by simp) (by simp)) (D6.then F7)))
  have z7 := h7.frozen
  obtain ⟨c0, c1, c2, c3, c4, c5, c6, c7, c8, c9, c10, c11, c12, c13, c14⟩ := lx_cells h7 HL.out.2
  clear h7 h6 A6 D6 F7 c0 c1 c2 c4 c5 c6 c7 c8 c9 c10 c11 c12 c13 c14
  generalize y6.behL = lb at *
  go_wp2_with fail
  go_ret
  obtain ⟨h7, A7, D7⟩ := HR.out
  refine ⟨?_, ?_, ?_, ?_⟩
  · first | rfl | (show Ending.returned (.bool (lb == 11)) = .returned (.bool (decide (lb = 11))); congr)
  · exact Pb.set h7 HL.out.2 (i := 3) (by show 3 < 15; omega) (.int .i64 lb)
  · exact A7.kept (Fr.setCell (S := [b]) (b := b) _ (by simp)) (by simp; exact HNE.out.1.symm) (by simp; exact HNE.out.2.symm)
  · exact D7.setCell' (b := b) _ (by simp)
set_option maxHeartbeats 1600000 in
set_option maxRecDepth 100000 in
theorem step6 {yd : Lx} {v : Int} {s' : St} (hl : y.ln = 6) (hd : yd.ln = 6) (HS : Hid (∀ wz, Fr [] w wz → Calls Try.prog 22 #[.pointer (some ⟨b, o, none⟩), .pointer (some ⟨p, 0, none⟩)] wz fun e w' => e = .returned (.int .i64 v) ∧ LxAt w' b T pre post yd ∧ Ar w' p q s' ∧ Fr [b, p, q] wz w')) (h : LxAt w b T pre post y) (ho : pre.size = o) (hne : b ≠ p ∧ b ≠ q) : Calls Try.prog 11 #[.pointer (some ⟨b, o, none⟩), .pointer (some ⟨p, 0, none⟩)] w (PostS w b p q T pre post (yd.fin v) s') := by
  obtain ⟨c0, c1, c2, c3, c4, c5, c6, c7, c8, c9, c10, c11, c12, c13, c14⟩ := lx_cells h ho
  rw [hl] at c3
  have q0 : ((6 : Int) != 11) = true := by decide
  have HL := Lib.hid (And.intro hd ho)
  have HNE := Lib.hid hne
  have hpt : yd.put v = { yd with f6 := v } := by unfold Lx.put; simp [hd]
  obtain ⟨y6, hy6⟩ : ∃ y6 : Lx, y6 = yd.put v := ⟨_, rfl⟩
  have hbl : 0 ≤ y6.ln ∧ y6.ln ≤ 10 := by rw [hy6, hpt]; show 0 ≤ yd.ln ∧ yd.ln ≤ 10; omega
  have HBL := Lib.hid hbl
  rw [show yd.fin v = { y6 with ln := y6.behL } by rw [hy6]; rfl]
  rw [hpt] at hy6
  have HY6 := Lib.hid hy6
  clear hpt hl hd ho hne h hbl hy6 c0 c1 c2 c4 c5 c6 c7 c8 c9 c10 c11 c12 c13 c14
  go_enter Try.func11, Try.ntmps11
  go_wp2_with fail
  refine wp_region_free (by kernel_rfl) ?_
  refine take_move 0 rfl (by kernel_rfl) (by kernel_rfl) (by kernel_rfl) rfl (fun _ _ d _ _ h => by cases d <;> exact h) ?_
  go_frame
  simp only [Act.eval, Array.getD_eq_getD_getElem?, List.getElem?_toArray, List.getElem?_cons_zero, Option.getD_some]
  refine any_envC (Kp3 w b o p q 6) #[true, true, true, true, true, true, true, true, true, true, true, false] 10 1 rfl ?_
  refine envCT_pass (Kp3.up w b o p q 6) [false, true, true, true, true, true, true, false, true, true, false, false] 2 (n := 31) (listed' := #[true, true, true, true, true, true, true, false, true, true, false, false]) rfl (by kernel_rfl) (by kernel_rfl) (by kernel_rfl) (by kernel_rfl) (by kernel_rfl) rfl (by kernel_rfl) (fun _ _ d _ _ h => by cases d <;> exact h) ⟨(Fr.refl _ w).drew, ((Fr.refl [] w).drew).cell c3 (by simp)⟩ ?_
  apply Exists.intro
  refine ⟨fun wf Ff => ?_, ?_⟩
  · have k3 := In.cell Ff.2
    simp only [sel]
    repeat (go_big_quiet_step (fail))
    exact wpQuiet_nil rfl
  refine envC_one 7 (by kernel_rfl) rfl rfl (fun w3 F3 => ?_)
  have D3 := (Fr.refl [] w).drew.trans F3
  clear F3 c3
  go_wp2_with fail
  refine (HS.out _ D3).mono ?_; rintro e w4 ⟨rfl, h4, A4, F4⟩
  replace F4 : Fr [b, p, q] w w4 := (D3.mono (by simp)).trans F4
  clear D3
  have HP := Lib.hid (And.intro h4 (And.intro A4 F4))
  have cc : w4.cell? ⟨b, o + 3, none⟩ = some (.int .i64 6) := by have := (lx_cells h4 HL.out.2).2.2.2.1; rw [HL.out.1] at this; exact this
  have HC := Lib.hid cc
  clear h4 A4 F4 cc
  go_wp2_with fail
  refine nx_normal ⟨⟨HP.out.2.2, HC.out⟩, ?_⟩
  refine envC_one 10 (by kernel_rfl) rfl rfl (fun w4' F4' => ?_)
  have HP' := Lib.hid (And.intro (Pb.up HP.out.1 F4') (And.intro (HP.out.2.1.kept F4' (by simp) (by simp)) (HP.out.2.2.then F4')))
  have HC' := Lib.hid (F4'.cell HC.out (by simp))
  clear F4' HP HC
  go_wp2_with fail
  refine nx_normal ⟨⟨HP'.out.2.2, HC'.out⟩, ?_⟩
  refine envC_tail (k := 11) rfl (by kernel_rfl) (fun w5 F5 => ?_)
  have h5 : LxAt w5 b T pre post yd := Pb.up HP'.out.1 F5
  have A5 := HP'.out.2.1.kept F5 (by simp) (by simp)
  have D5 := HP'.out.2.2.then F5
  clear F5 HP' HC'
  have HP := Lib.hid (And.intro h5 (And.intro A5 D5))
  obtain ⟨c0, c1, c2, c3, c4, c5, c6, c7, c8, c9, c10, c11, c12, c13, c14⟩ := lx_cells h5 HL.out.2
  have z5 := h5.frozen
  clear h5 A5 D5
  rw [HL.out.1] at c3
  go_wp2_with fail
  have h6 : LxAt (w5.setCell ⟨b, o + 4 + 6, none⟩ (.int .i64 v)) b T pre post y6 := by rw [HY6.out]; exact Pb.set HP.out.1 HL.out.2 (i := 10) (by show 10 < 15; omega) (.int .i64 v)
  have A6 : Ar (w5.setCell ⟨b, o + 4 + 6, none⟩ (.int .i64 v)) p q s' := HP.out.2.1.kept (Fr.setCell (S := [b]) (b := b) _ (by simp)) (by simp; exact HNE.out.1.symm) (by simp; exact HNE.out.2.symm)
  have D6 := HP.out.2.2.setCell' (b := b) (i := o + 4 + 6) (.int .i64 v) (by simp)
  generalize (w5.setCell ⟨b, o + 4 + 6, none⟩ (.int .i64 v)) = w6 at *
  clear c0 c1 c2 c3 c4 c5 c6 c7 c8 c9 c10 c11 c12 c13 c14 z5
  refine (beh_any HBL.out h6 HL.out.2).mono ?_; rintro e w7 ⟨rfl, F7⟩
  have h7 : LxAt w7 b T pre post y6 := Pb.up h6 F7
  have HR := Lib.hid (And.intro h7 (And.intro (A6.kept F7 (by simp) (by simp)) (D6.then F7)))
  have z7 := h7.frozen
  obtain ⟨c0, c1, c2, c3, c4, c5, c6, c7, c8, c9, c10, c11, c12, c13, c14⟩ := lx_cells h7 HL.out.2
  clear h7 h6 A6 D6 F7 c0 c1 c2 c4 c5 c6 c7 c8 c9 c10 c11 c12 c13 c14
  generalize y6.behL = lb at *
  go_wp2_with fail
  go_ret
  obtain ⟨h7, A7, D7⟩ := HR.out
  refine ⟨?_, ?_, ?_, ?_⟩
  · first | rfl | (show Ending.returned (.bool (lb == 11)) = .returned (.bool (decide (lb = 11))); congr)
  · exact Pb.set h7 HL.out.2 (i := 3) (by show 3 < 15; omega) (.int .i64 lb)
  · exact A7.kept (Fr.setCell (S := [b]) (b := b) _ (by simp)) (by simp; exact HNE.out.1.symm) (by simp; exact HNE.out.2.symm)
  · exact D7.setCell' (b := b) _ (by simp)
set_option maxHeartbeats 1600000 in
set_option maxRecDepth 100000 in
theorem step7 {yd : Lx} {v : Int} {s' : St} (hl : y.ln = 7) (hd : yd.ln = 7) (HS : Hid (∀ wz, Fr [] w wz → Calls Try.prog 22 #[.pointer (some ⟨b, o, none⟩), .pointer (some ⟨p, 0, none⟩)] wz fun e w' => e = .returned (.int .i64 v) ∧ LxAt w' b T pre post yd ∧ Ar w' p q s' ∧ Fr [b, p, q] wz w')) (h : LxAt w b T pre post y) (ho : pre.size = o) (hne : b ≠ p ∧ b ≠ q) : Calls Try.prog 11 #[.pointer (some ⟨b, o, none⟩), .pointer (some ⟨p, 0, none⟩)] w (PostS w b p q T pre post (yd.fin v) s') := by
  obtain ⟨c0, c1, c2, c3, c4, c5, c6, c7, c8, c9, c10, c11, c12, c13, c14⟩ := lx_cells h ho
  rw [hl] at c3
  have q0 : ((7 : Int) != 11) = true := by decide
  have HL := Lib.hid (And.intro hd ho)
  have HNE := Lib.hid hne
  have hpt : yd.put v = { yd with f7 := v } := by unfold Lx.put; simp [hd]
  obtain ⟨y6, hy6⟩ : ∃ y6 : Lx, y6 = yd.put v := ⟨_, rfl⟩
  have hbl : 0 ≤ y6.ln ∧ y6.ln ≤ 10 := by rw [hy6, hpt]; show 0 ≤ yd.ln ∧ yd.ln ≤ 10; omega
  have HBL := Lib.hid hbl
  rw [show yd.fin v = { y6 with ln := y6.behL } by rw [hy6]; rfl]
  rw [hpt] at hy6
  have HY6 := Lib.hid hy6
  clear hpt hl hd ho hne h hbl hy6 c0 c1 c2 c4 c5 c6 c7 c8 c9 c10 c11 c12 c13 c14
  go_enter Try.func11, Try.ntmps11
  go_wp2_with fail
  refine wp_region_free (by kernel_rfl) ?_
  refine take_move 0 rfl (by kernel_rfl) (by kernel_rfl) (by kernel_rfl) rfl (fun _ _ d _ _ h => by cases d <;> exact h) ?_
  go_frame
  simp only [Act.eval, Array.getD_eq_getD_getElem?, List.getElem?_toArray, List.getElem?_cons_zero, Option.getD_some]
  refine any_envC (Kp3 w b o p q 7) #[true, true, true, true, true, true, true, true, true, true, true, false] 10 1 rfl ?_
  refine envCT_pass (Kp3.up w b o p q 7) [false, true, true, true, true, true, true, false, true, true, false, false] 2 (n := 31) (listed' := #[true, true, true, true, true, true, true, false, true, true, false, false]) rfl (by kernel_rfl) (by kernel_rfl) (by kernel_rfl) (by kernel_rfl) (by kernel_rfl) rfl (by kernel_rfl) (fun _ _ d _ _ h => by cases d <;> exact h) ⟨(Fr.refl _ w).drew, ((Fr.refl [] w).drew).cell c3 (by simp)⟩ ?_
  apply Exists.intro
  refine ⟨fun wf Ff => ?_, ?_⟩
  · have k3 := In.cell Ff.2
    simp only [sel]
    repeat (go_big_quiet_step (fail))
    exact wpQuiet_nil rfl
  refine envC_one 7 (by kernel_rfl) rfl rfl (fun w3 F3 => ?_)
  have D3 := (Fr.refl [] w).drew.trans F3
  clear F3 c3
  go_wp2_with fail
  refine (HS.out _ D3).mono ?_; rintro e w4 ⟨rfl, h4, A4, F4⟩
  replace F4 : Fr [b, p, q] w w4 := (D3.mono (by simp)).trans F4
  clear D3
  have HP := Lib.hid (And.intro h4 (And.intro A4 F4))
  have cc : w4.cell? ⟨b, o + 3, none⟩ = some (.int .i64 7) := by have := (lx_cells h4 HL.out.2).2.2.2.1; rw [HL.out.1] at this; exact this
  have HC := Lib.hid cc
  clear h4 A4 F4 cc
  go_wp2_with fail
  refine nx_normal ⟨⟨HP.out.2.2, HC.out⟩, ?_⟩
  refine envC_one 10 (by kernel_rfl) rfl rfl (fun w4' F4' => ?_)
  have HP' := Lib.hid (And.intro (Pb.up HP.out.1 F4') (And.intro (HP.out.2.1.kept F4' (by simp) (by simp)) (HP.out.2.2.then F4')))
  have HC' := Lib.hid (F4'.cell HC.out (by simp))
  clear F4' HP HC
  go_wp2_with fail
  refine nx_normal ⟨⟨HP'.out.2.2, HC'.out⟩, ?_⟩
  refine envC_tail (k := 11) rfl (by kernel_rfl) (fun w5 F5 => ?_)
  have h5 : LxAt w5 b T pre post yd := Pb.up HP'.out.1 F5
  have A5 := HP'.out.2.1.kept F5 (by simp) (by simp)
  have D5 := HP'.out.2.2.then F5
  clear F5 HP' HC'
  have HP := Lib.hid (And.intro h5 (And.intro A5 D5))
  obtain ⟨c0, c1, c2, c3, c4, c5, c6, c7, c8, c9, c10, c11, c12, c13, c14⟩ := lx_cells h5 HL.out.2
  have z5 := h5.frozen
  clear h5 A5 D5
  rw [HL.out.1] at c3
  go_wp2_with fail
  have h6 : LxAt (w5.setCell ⟨b, o + 4 + 7, none⟩ (.int .i64 v)) b T pre post y6 := by rw [HY6.out]; exact Pb.set HP.out.1 HL.out.2 (i := 11) (by show 11 < 15; omega) (.int .i64 v)
  have A6 : Ar (w5.setCell ⟨b, o + 4 + 7, none⟩ (.int .i64 v)) p q s' := HP.out.2.1.kept (Fr.setCell (S := [b]) (b := b) _ (by simp)) (by simp; exact HNE.out.1.symm) (by simp; exact HNE.out.2.symm)
  have D6 := HP.out.2.2.setCell' (b := b) (i := o + 4 + 7) (.int .i64 v) (by simp)
  generalize (w5.setCell ⟨b, o + 4 + 7, none⟩ (.int .i64 v)) = w6 at *
  clear c0 c1 c2 c3 c4 c5 c6 c7 c8 c9 c10 c11 c12 c13 c14 z5
  refine (beh_any HBL.out h6 HL.out.2).mono ?_; rintro e w7 ⟨rfl, F7⟩
  have h7 : LxAt w7 b T pre post y6 := Pb.up h6 F7
  have HR := Lib.hid (And.intro h7 (And.intro (A6.kept F7 (by simp) (by simp)) (D6.then F7)))
  have z7 := h7.frozen
  obtain ⟨c0, c1, c2, c3, c4, c5, c6, c7, c8, c9, c10, c11, c12, c13, c14⟩ := lx_cells h7 HL.out.2
  clear h7 h6 A6 D6 F7 c0 c1 c2 c4 c5 c6 c7 c8 c9 c10 c11 c12 c13 c14
  generalize y6.behL = lb at *
  go_wp2_with fail
  go_ret
  obtain ⟨h7, A7, D7⟩ := HR.out
  refine ⟨?_, ?_, ?_, ?_⟩
  · first | rfl | (show Ending.returned (.bool (lb == 11)) = .returned (.bool (decide (lb = 11))); congr)
  · exact Pb.set h7 HL.out.2 (i := 3) (by show 3 < 15; omega) (.int .i64 lb)
  · exact A7.kept (Fr.setCell (S := [b]) (b := b) _ (by simp)) (by simp; exact HNE.out.1.symm) (by simp; exact HNE.out.2.symm)
  · exact D7.setCell' (b := b) _ (by simp)
set_option maxHeartbeats 1600000 in
set_option maxRecDepth 100000 in
theorem step8 {yd : Lx} {v : Int} {s' : St} (hl : y.ln = 8) (hd : yd.ln = 8) (HS : Hid (∀ wz, Fr [] w wz → Calls Try.prog 22 #[.pointer (some ⟨b, o, none⟩), .pointer (some ⟨p, 0, none⟩)] wz fun e w' => e = .returned (.int .i64 v) ∧ LxAt w' b T pre post yd ∧ Ar w' p q s' ∧ Fr [b, p, q] wz w')) (h : LxAt w b T pre post y) (ho : pre.size = o) (hne : b ≠ p ∧ b ≠ q) : Calls Try.prog 11 #[.pointer (some ⟨b, o, none⟩), .pointer (some ⟨p, 0, none⟩)] w (PostS w b p q T pre post (yd.fin v) s') := by
  obtain ⟨c0, c1, c2, c3, c4, c5, c6, c7, c8, c9, c10, c11, c12, c13, c14⟩ := lx_cells h ho
  rw [hl] at c3
  have q0 : ((8 : Int) != 11) = true := by decide
  have HL := Lib.hid (And.intro hd ho)
  have HNE := Lib.hid hne
  have hpt : yd.put v = { yd with f8 := v } := by unfold Lx.put; simp [hd]
  obtain ⟨y6, hy6⟩ : ∃ y6 : Lx, y6 = yd.put v := ⟨_, rfl⟩
  have hbl : 0 ≤ y6.ln ∧ y6.ln ≤ 10 := by rw [hy6, hpt]; show 0 ≤ yd.ln ∧ yd.ln ≤ 10; omega
  have HBL := Lib.hid hbl
  rw [show yd.fin v = { y6 with ln := y6.behL } by rw [hy6]; rfl]
  rw [hpt] at hy6
  have HY6 := Lib.hid hy6
  clear hpt hl hd ho hne h hbl hy6 c0 c1 c2 c4 c5 c6 c7 c8 c9 c10 c11 c12 c13 c14
  go_enter Try.func11, Try.ntmps11
  go_wp2_with fail
  refine wp_region_free (by kernel_rfl) ?_
  refine take_move 0 rfl (by kernel_rfl) (by kernel_rfl) (by kernel_rfl) rfl (fun _ _ d _ _ h => by cases d <;> exact h) ?_
  go_frame
  simp only [Act.eval, Array.getD_eq_getD_getElem?, List.getElem?_toArray, List.getElem?_cons_zero, Option.getD_some]
  refine any_envC (Kp3 w b o p q 8) #[true, true, true, true, true, true, true, true, true, true, true, false] 10 1 rfl ?_
  refine envCT_pass (Kp3.up w b o p q 8) [false, true, true, true, true, true, true, false, true, true, false, false] 2 (n := 31) (listed' := #[true, true, true, true, true, true, true, false, true, true, false, false]) rfl (by kernel_rfl) (by kernel_rfl) (by kernel_rfl) (by kernel_rfl) (by kernel_rfl) rfl (by kernel_rfl) (fun _ _ d _ _ h => by cases d <;> exact h) ⟨(Fr.refl _ w).drew, ((Fr.refl [] w).drew).cell c3 (by simp)⟩ ?_
  apply Exists.intro
  refine ⟨fun wf Ff => ?_, ?_⟩
  · have k3 := In.cell Ff.2
    simp only [sel]
    repeat (go_big_quiet_step (fail))
    exact wpQuiet_nil rfl
  refine envC_one 7 (by kernel_rfl) rfl rfl (fun w3 F3 => ?_)
  have D3 := (Fr.refl [] w).drew.trans F3
  clear F3 c3
  go_wp2_with fail
  refine (HS.out _ D3).mono ?_; rintro e w4 ⟨rfl, h4, A4, F4⟩
  replace F4 : Fr [b, p, q] w w4 := (D3.mono (by simp)).trans F4
  clear D3
  have HP := Lib.hid (And.intro h4 (And.intro A4 F4))
  have cc : w4.cell? ⟨b, o + 3, none⟩ = some (.int .i64 8) := by have := (lx_cells h4 HL.out.2).2.2.2.1; rw [HL.out.1] at this; exact this
  have HC := Lib.hid cc
  clear h4 A4 F4 cc
  go_wp2_with fail
  refine nx_normal ⟨⟨HP.out.2.2, HC.out⟩, ?_⟩
  refine envC_one 10 (by kernel_rfl) rfl rfl (fun w4' F4' => ?_)
  have HP' := Lib.hid (And.intro (Pb.up HP.out.1 F4') (And.intro (HP.out.2.1.kept F4' (by simp) (by simp)) (HP.out.2.2.then F4')))
  have HC' := Lib.hid (F4'.cell HC.out (by simp))
  clear F4' HP HC
  go_wp2_with fail
  refine nx_normal ⟨⟨HP'.out.2.2, HC'.out⟩, ?_⟩
  refine envC_tail (k := 11) rfl (by kernel_rfl) (fun w5 F5 => ?_)
  have h5 : LxAt w5 b T pre post yd := Pb.up HP'.out.1 F5
  have A5 := HP'.out.2.1.kept F5 (by simp) (by simp)
  have D5 := HP'.out.2.2.then F5
  clear F5 HP' HC'
  have HP := Lib.hid (And.intro h5 (And.intro A5 D5))
  obtain ⟨c0, c1, c2, c3, c4, c5, c6, c7, c8, c9, c10, c11, c12, c13, c14⟩ := lx_cells h5 HL.out.2
  have z5 := h5.frozen
  clear h5 A5 D5
  rw [HL.out.1] at c3
  go_wp2_with fail
  have h6 : LxAt (w5.setCell ⟨b, o + 4 + 8, none⟩ (.int .i64 v)) b T pre post y6 := by rw [HY6.out]; exact Pb.set HP.out.1 HL.out.2 (i := 12) (by show 12 < 15; omega) (.int .i64 v)
  have A6 : Ar (w5.setCell ⟨b, o + 4 + 8, none⟩ (.int .i64 v)) p q s' := HP.out.2.1.kept (Fr.setCell (S := [b]) (b := b) _ (by simp)) (by simp; exact HNE.out.1.symm) (by simp; exact HNE.out.2.symm)
  have D6 := HP.out.2.2.setCell' (b := b) (i := o + 4 + 8) (.int .i64 v) (by simp)
  generalize (w5.setCell ⟨b, o + 4 + 8, none⟩ (.int .i64 v)) = w6 at *
  clear c0 c1 c2 c3 c4 c5 c6 c7 c8 c9 c10 c11 c12 c13 c14 z5
  refine (beh_any HBL.out h6 HL.out.2).mono ?_; rintro e w7 ⟨rfl, F7⟩
  have h7 : LxAt w7 b T pre post y6 := Pb.up h6 F7
  have HR := Lib.hid (And.intro h7 (And.intro (A6.kept F7 (by simp) (by simp)) (D6.then F7)))
  have z7 := h7.frozen
  obtain ⟨c0, c1, c2, c3, c4, c5, c6, c7, c8, c9, c10, c11, c12, c13, c14⟩ := lx_cells h7 HL.out.2
  clear h7 h6 A6 D6 F7 c0 c1 c2 c4 c5 c6 c7 c8 c9 c10 c11 c12 c13 c14
  generalize y6.behL = lb at *
  go_wp2_with fail
  go_ret
  obtain ⟨h7, A7, D7⟩ := HR.out
  refine ⟨?_, ?_, ?_, ?_⟩
  · first | rfl | (show Ending.returned (.bool (lb == 11)) = .returned (.bool (decide (lb = 11))); congr)
  · exact Pb.set h7 HL.out.2 (i := 3) (by show 3 < 15; omega) (.int .i64 lb)
  · exact A7.kept (Fr.setCell (S := [b]) (b := b) _ (by simp)) (by simp; exact HNE.out.1.symm) (by simp; exact HNE.out.2.symm)
  · exact D7.setCell' (b := b) _ (by simp)
set_option maxHeartbeats 1600000 in
set_option maxRecDepth 100000 in
theorem step9 {yd : Lx} {v : Int} {s' : St} (hl : y.ln = 9) (hd : yd.ln = 9) (HS : Hid (∀ wz, Fr [] w wz → Calls Try.prog 22 #[.pointer (some ⟨b, o, none⟩), .pointer (some ⟨p, 0, none⟩)] wz fun e w' => e = .returned (.int .i64 v) ∧ LxAt w' b T pre post yd ∧ Ar w' p q s' ∧ Fr [b, p, q] wz w')) (h : LxAt w b T pre post y) (ho : pre.size = o) (hne : b ≠ p ∧ b ≠ q) : Calls Try.prog 11 #[.pointer (some ⟨b, o, none⟩), .pointer (some ⟨p, 0, none⟩)] w (PostS w b p q T pre post (yd.fin v) s') := by
  obtain ⟨c0, c1, c2, c3, c4, c5, c6, c7, c8, c9, c10, c11, c12, c13, c14⟩ := lx_cells h ho
  rw [hl] at c3
  have q0 : ((9 : Int) != 11) = true := by decide
  have HL := Lib.hid (And.intro hd ho)
  have HNE := Lib.hid hne
  have hpt : yd.put v = { yd with f9 := v } := by unfold Lx.put; simp [hd]
  obtain ⟨y6, hy6⟩ : ∃ y6 : Lx, y6 = yd.put v := ⟨_, rfl⟩
  have hbl : 0 ≤ y6.ln ∧ y6.ln ≤ 10 := by rw [hy6, hpt]; show 0 ≤ yd.ln ∧ yd.ln ≤ 10; omega
  have HBL := Lib.hid hbl
  rw [show yd.fin v = { y6 with ln := y6.behL } by rw [hy6]; rfl]
  rw [hpt] at hy6
  have HY6 := Lib.hid hy6
  clear hpt hl hd ho hne h hbl hy6 c0 c1 c2 c4 c5 c6 c7 c8 c9 c10 c11 c12 c13 c14
  go_enter Try.func11, Try.ntmps11
  go_wp2_with fail
  refine wp_region_free (by kernel_rfl) ?_
  refine take_move 0 rfl (by kernel_rfl) (by kernel_rfl) (by kernel_rfl) rfl (fun _ _ d _ _ h => by cases d <;> exact h) ?_
  go_frame
  simp only [Act.eval, Array.getD_eq_getD_getElem?, List.getElem?_toArray, List.getElem?_cons_zero, Option.getD_some]
  refine any_envC (Kp3 w b o p q 9) #[true, true, true, true, true, true, true, true, true, true, true, false] 10 1 rfl ?_
  refine envCT_pass (Kp3.up w b o p q 9) [false, true, true, true, true, true, true, false, true, true, false, false] 2 (n := 31) (listed' := #[true, true, true, true, true, true, true, false, true, true, false, false]) rfl (by kernel_rfl) (by kernel_rfl) (by kernel_rfl) (by kernel_rfl) (by kernel_rfl) rfl (by kernel_rfl) (fun _ _ d _ _ h => by cases d <;> exact h) ⟨(Fr.refl _ w).drew, ((Fr.refl [] w).drew).cell c3 (by simp)⟩ ?_
  apply Exists.intro
  refine ⟨fun wf Ff => ?_, ?_⟩
  · have k3 := In.cell Ff.2
    simp only [sel]
    repeat (go_big_quiet_step (fail))
    exact wpQuiet_nil rfl
  refine envC_one 7 (by kernel_rfl) rfl rfl (fun w3 F3 => ?_)
  have D3 := (Fr.refl [] w).drew.trans F3
  clear F3 c3
  go_wp2_with fail
  refine (HS.out _ D3).mono ?_; rintro e w4 ⟨rfl, h4, A4, F4⟩
  replace F4 : Fr [b, p, q] w w4 := (D3.mono (by simp)).trans F4
  clear D3
  have HP := Lib.hid (And.intro h4 (And.intro A4 F4))
  have cc : w4.cell? ⟨b, o + 3, none⟩ = some (.int .i64 9) := by have := (lx_cells h4 HL.out.2).2.2.2.1; rw [HL.out.1] at this; exact this
  have HC := Lib.hid cc
  clear h4 A4 F4 cc
  go_wp2_with fail
  refine nx_normal ⟨⟨HP.out.2.2, HC.out⟩, ?_⟩
  refine envC_one 10 (by kernel_rfl) rfl rfl (fun w4' F4' => ?_)
  have HP' := Lib.hid (And.intro (Pb.up HP.out.1 F4') (And.intro (HP.out.2.1.kept F4' (by simp) (by simp)) (HP.out.2.2.then F4')))
  have HC' := Lib.hid (F4'.cell HC.out (by simp))
  clear F4' HP HC
  go_wp2_with fail
  refine nx_normal ⟨⟨HP'.out.2.2, HC'.out⟩, ?_⟩
  refine envC_tail (k := 11) rfl (by kernel_rfl) (fun w5 F5 => ?_)
  have h5 : LxAt w5 b T pre post yd := Pb.up HP'.out.1 F5
  have A5 := HP'.out.2.1.kept F5 (by simp) (by simp)
  have D5 := HP'.out.2.2.then F5
  clear F5 HP' HC'
  have HP := Lib.hid (And.intro h5 (And.intro A5 D5))
  obtain ⟨c0, c1, c2, c3, c4, c5, c6, c7, c8, c9, c10, c11, c12, c13, c14⟩ := lx_cells h5 HL.out.2
  have z5 := h5.frozen
  clear h5 A5 D5
  rw [HL.out.1] at c3
  go_wp2_with fail
  have h6 : LxAt (w5.setCell ⟨b, o + 4 + 9, none⟩ (.int .i64 v)) b T pre post y6 := by rw [HY6.out]; exact Pb.set HP.out.1 HL.out.2 (i := 13) (by show 13 < 15; omega) (.int .i64 v)
  have A6 : Ar (w5.setCell ⟨b, o + 4 + 9, none⟩ (.int .i64 v)) p q s' := HP.out.2.1.kept (Fr.setCell (S := [b]) (b := b) _ (by simp)) (by simp; exact HNE.out.1.symm) (by simp; exact HNE.out.2.symm)
  have D6 := HP.out.2.2.setCell' (b := b) (i := o + 4 + 9) (.int .i64 v) (by simp)
  generalize (w5.setCell ⟨b, o + 4 + 9, none⟩ (.int .i64 v)) = w6 at *
  clear c0 c1 c2 c3 c4 c5 c6 c7 c8 c9 c10 c11 c12 c13 c14 z5
  refine (beh_any HBL.out h6 HL.out.2).mono ?_; rintro e w7 ⟨rfl, F7⟩
  have h7 : LxAt w7 b T pre post y6 := Pb.up h6 F7
  have HR := Lib.hid (And.intro h7 (And.intro (A6.kept F7 (by simp) (by simp)) (D6.then F7)))
  have z7 := h7.frozen
  obtain ⟨c0, c1, c2, c3, c4, c5, c6, c7, c8, c9, c10, c11, c12, c13, c14⟩ := lx_cells h7 HL.out.2
  clear h7 h6 A6 D6 F7 c0 c1 c2 c4 c5 c6 c7 c8 c9 c10 c11 c12 c13 c14
  generalize y6.behL = lb at *
  go_wp2_with fail
  go_ret
  obtain ⟨h7, A7, D7⟩ := HR.out
  refine ⟨?_, ?_, ?_, ?_⟩
  · first | rfl | (show Ending.returned (.bool (lb == 11)) = .returned (.bool (decide (lb = 11))); congr)
  · exact Pb.set h7 HL.out.2 (i := 3) (by show 3 < 15; omega) (.int .i64 lb)
  · exact A7.kept (Fr.setCell (S := [b]) (b := b) _ (by simp)) (by simp; exact HNE.out.1.symm) (by simp; exact HNE.out.2.symm)
  · exact D7.setCell' (b := b) _ (by simp)
set_option maxHeartbeats 1600000 in
set_option maxRecDepth 100000 in
theorem step10 {yd : Lx} {v : Int} {s' : St} (hl : y.ln = 10) (hd : yd.ln = 10) (HS : Hid (∀ wz, Fr [] w wz → Calls Try.prog 22 #[.pointer (some ⟨b, o, none⟩), .pointer (some ⟨p, 0, none⟩)] wz fun e w' => e = .returned (.int .i64 v) ∧ LxAt w' b T pre post yd ∧ Ar w' p q s' ∧ Fr [b, p, q] wz w')) (h : LxAt w b T pre post y) (ho : pre.size = o) (hne : b ≠ p ∧ b ≠ q) : Calls Try.prog 11 #[.pointer (some ⟨b, o, none⟩), .pointer (some ⟨p, 0, none⟩)] w (PostS w b p q T pre post (yd.fin v) s') := by
  obtain ⟨c0, c1, c2, c3, c4, c5, c6, c7, c8, c9, c10, c11, c12, c13, c14⟩ := lx_cells h ho
  rw [hl] at c3
  have q0 : ((10 : Int) != 11) = true := by decide
  have HL := Lib.hid (And.intro hd ho)
  have HNE := Lib.hid hne
  have hpt : yd.put v = { yd with f10 := v } := by unfold Lx.put; simp [hd]
  obtain ⟨y6, hy6⟩ : ∃ y6 : Lx, y6 = yd.put v := ⟨_, rfl⟩
  have hbl : 0 ≤ y6.ln ∧ y6.ln ≤ 10 := by rw [hy6, hpt]; show 0 ≤ yd.ln ∧ yd.ln ≤ 10; omega
  have HBL := Lib.hid hbl
  rw [show yd.fin v = { y6 with ln := y6.behL } by rw [hy6]; rfl]
  rw [hpt] at hy6
  have HY6 := Lib.hid hy6
  clear hpt hl hd ho hne h hbl hy6 c0 c1 c2 c4 c5 c6 c7 c8 c9 c10 c11 c12 c13 c14
  go_enter Try.func11, Try.ntmps11
  go_wp2_with fail
  refine wp_region_free (by kernel_rfl) ?_
  refine take_move 0 rfl (by kernel_rfl) (by kernel_rfl) (by kernel_rfl) rfl (fun _ _ d _ _ h => by cases d <;> exact h) ?_
  go_frame
  simp only [Act.eval, Array.getD_eq_getD_getElem?, List.getElem?_toArray, List.getElem?_cons_zero, Option.getD_some]
  refine any_envC (Kp3 w b o p q 10) #[true, true, true, true, true, true, true, true, true, true, true, false] 10 1 rfl ?_
  refine envCT_pass (Kp3.up w b o p q 10) [false, true, true, true, true, true, true, false, true, true, false, false] 2 (n := 31) (listed' := #[true, true, true, true, true, true, true, false, true, true, false, false]) rfl (by kernel_rfl) (by kernel_rfl) (by kernel_rfl) (by kernel_rfl) (by kernel_rfl) rfl (by kernel_rfl) (fun _ _ d _ _ h => by cases d <;> exact h) ⟨(Fr.refl _ w).drew, ((Fr.refl [] w).drew).cell c3 (by simp)⟩ ?_
  apply Exists.intro
  refine ⟨fun wf Ff => ?_, ?_⟩
  · have k3 := In.cell Ff.2
    simp only [sel]
    repeat (go_big_quiet_step (fail))
    exact wpQuiet_nil rfl
  refine envC_one 7 (by kernel_rfl) rfl rfl (fun w3 F3 => ?_)
  have D3 := (Fr.refl [] w).drew.trans F3
  clear F3 c3
  go_wp2_with fail
  refine (HS.out _ D3).mono ?_; rintro e w4 ⟨rfl, h4, A4, F4⟩
  replace F4 : Fr [b, p, q] w w4 := (D3.mono (by simp)).trans F4
  clear D3
  have HP := Lib.hid (And.intro h4 (And.intro A4 F4))
  have cc : w4.cell? ⟨b, o + 3, none⟩ = some (.int .i64 10) := by have := (lx_cells h4 HL.out.2).2.2.2.1; rw [HL.out.1] at this; exact this
  have HC := Lib.hid cc
  clear h4 A4 F4 cc
  go_wp2_with fail
  refine nx_normal ⟨⟨HP.out.2.2, HC.out⟩, ?_⟩
  refine envC_one 10 (by kernel_rfl) rfl rfl (fun w4' F4' => ?_)
  have HP' := Lib.hid (And.intro (Pb.up HP.out.1 F4') (And.intro (HP.out.2.1.kept F4' (by simp) (by simp)) (HP.out.2.2.then F4')))
  have HC' := Lib.hid (F4'.cell HC.out (by simp))
  clear F4' HP HC
  go_wp2_with fail
  refine nx_normal ⟨⟨HP'.out.2.2, HC'.out⟩, ?_⟩
  refine envC_tail (k := 11) rfl (by kernel_rfl) (fun w5 F5 => ?_)
  have h5 : LxAt w5 b T pre post yd := Pb.up HP'.out.1 F5
  have A5 := HP'.out.2.1.kept F5 (by simp) (by simp)
  have D5 := HP'.out.2.2.then F5
  clear F5 HP' HC'
  have HP := Lib.hid (And.intro h5 (And.intro A5 D5))
  obtain ⟨c0, c1, c2, c3, c4, c5, c6, c7, c8, c9, c10, c11, c12, c13, c14⟩ := lx_cells h5 HL.out.2
  have z5 := h5.frozen
  clear h5 A5 D5
  rw [HL.out.1] at c3
  go_wp2_with fail
  have h6 : LxAt (w5.setCell ⟨b, o + 4 + 10, none⟩ (.int .i64 v)) b T pre post y6 := by rw [HY6.out]; exact Pb.set HP.out.1 HL.out.2 (i := 14) (by show 14 < 15; omega) (.int .i64 v)
  have A6 : Ar (w5.setCell ⟨b, o + 4 + 10, none⟩ (.int .i64 v)) p q s' := HP.out.2.1.kept (Fr.setCell (S := [b]) (b := b) _ (by simp)) (by simp; exact HNE.out.1.symm) (by simp; exact HNE.out.2.symm)
  have D6 := HP.out.2.2.setCell' (b := b) (i := o + 4 + 10) (.int .i64 v) (by simp)
  generalize (w5.setCell ⟨b, o + 4 + 10, none⟩ (.int .i64 v)) = w6 at *
  clear c0 c1 c2 c3 c4 c5 c6 c7 c8 c9 c10 c11 c12 c13 c14 z5
  refine (beh_any HBL.out h6 HL.out.2).mono ?_; rintro e w7 ⟨rfl, F7⟩
  have h7 : LxAt w7 b T pre post y6 := Pb.up h6 F7
  have HR := Lib.hid (And.intro h7 (And.intro (A6.kept F7 (by simp) (by simp)) (D6.then F7)))
  have z7 := h7.frozen
  obtain ⟨c0, c1, c2, c3, c4, c5, c6, c7, c8, c9, c10, c11, c12, c13, c14⟩ := lx_cells h7 HL.out.2
  clear h7 h6 A6 D6 F7 c0 c1 c2 c4 c5 c6 c7 c8 c9 c10 c11 c12 c13 c14
  generalize y6.behL = lb at *
  go_wp2_with fail
  go_ret
  obtain ⟨h7, A7, D7⟩ := HR.out
  refine ⟨?_, ?_, ?_, ?_⟩
  · first | rfl | (show Ending.returned (.bool (lb == 11)) = .returned (.bool (decide (lb = 11))); congr)
  · exact Pb.set h7 HL.out.2 (i := 3) (by show 3 < 15; omega) (.int .i64 lb)
  · exact A7.kept (Fr.setCell (S := [b]) (b := b) _ (by simp)) (by simp; exact HNE.out.1.symm) (by simp; exact HNE.out.2.symm)
  · exact D7.setCell' (b := b) _ (by simp)
theorem step_on (hl : 0 ≤ y.ln ∧ y.ln ≤ 10) (h : LxAt w b T pre post y) (ho : pre.size = o) (hA : Ar w p q s) (hne : b ≠ p ∧ b ≠ q) : Calls Try.prog 11 #[.pointer (some ⟨b, o, none⟩), .pointer (some ⟨p, 0, none⟩)] w (PostS w b p q T pre post (y.step s) (y.act s)) := by
  have HS := Lib.hid (show ∀ wz, Fr [] w wz → Calls Try.prog 22 #[.pointer (some ⟨b, o, none⟩), .pointer (some ⟨p, 0, none⟩)] wz (fun e w' => e = .returned (.int .i64 (y.told s)) ∧ LxAt w' b T pre post y.drow ∧ Ar w' p q (y.act s) ∧ Fr [b, p, q] wz w') from fun wz Fz => acc_any hl (Pb.up h Fz) ho (hA.kept Fz (by simp) (by simp)) hne)
  have hd : y.drow.ln = y.ln := by unfold Lx.drow; split <;> rfl
  show Calls Try.prog 11 _ w (PostS w b p q T pre post (y.drow.fin (y.told s)) (y.act s))
  rcases (by omega : y.ln = 0 ∨ y.ln = 1 ∨ y.ln = 2 ∨ y.ln = 3 ∨ y.ln = 4 ∨ y.ln = 5 ∨ y.ln = 6 ∨ y.ln = 7 ∨ y.ln = 8 ∨ y.ln = 9 ∨ y.ln = 10) with e | e | e | e | e | e | e | e | e | e | e
  · exact step0 e (hd.trans e) HS h ho hne
  · exact step1 e (hd.trans e) HS h ho hne
  · exact step2 e (hd.trans e) HS h ho hne
  · exact step3 e (hd.trans e) HS h ho hne
  · exact step4 e (hd.trans e) HS h ho hne
  · exact step5 e (hd.trans e) HS h ho hne
  · exact step6 e (hd.trans e) HS h ho hne
  · exact step7 e (hd.trans e) HS h ho hne
  · exact step8 e (hd.trans e) HS h ho hne
  · exact step9 e (hd.trans e) HS h ho hne
  · exact step10 e (hd.trans e) HS h ho hne
def Lx.go (y : Lx) (s : St) : Lx × St := if y.ln = 11 then (y, s) else (y.step s, y.act s)
theorem step_any (hl : 0 ≤ y.ln ∧ y.ln ≤ 11) (h : LxAt w b T pre post y) (ho : pre.size = o) (hA : Ar w p q s) (hne : b ≠ p ∧ b ≠ q) : Calls Try.prog 11 #[.pointer (some ⟨b, o, none⟩), .pointer (some ⟨p, 0, none⟩)] w (PostS w b p q T pre post (y.go s).1 (y.go s).2) := by
  by_cases e8 : y.ln = 11
  · have eg : y.go s = (y, s) := by unfold Lx.go; rw [if_pos e8]
    rw [eg]
    obtain ⟨c0, c1, c2, c3, c4, c5, c6, c7, c8, c9, c10, c11, c12, c13, c14⟩ := lx_cells h ho
    rw [e8] at c3
    have HH := Lib.hid (And.intro h hA)
    have HE := Lib.hid e8
    have q0 : ((11 : Int) != 11) = false := by decide
    unfold PostS
    clear h hA e8 eg c0 c1 c2 hl ho c4 c5 c6 c7 c8 c9 c10 c11 c12 c13 c14
    go_enter Try.func11, Try.ntmps11
    go_wp2
    go_ret
    exact ⟨by rw [HE.out]; rfl, HH.out.1, HH.out.2, Fr.refl _ _⟩
  · have eg : y.go s = (y.step s, y.act s) := by unfold Lx.go; rw [if_neg e8]
    rw [eg]
    exact step_on (by omega) h ho hA hne
end
end Go.Proofs.Ytfchbbhopfganaa.Le
