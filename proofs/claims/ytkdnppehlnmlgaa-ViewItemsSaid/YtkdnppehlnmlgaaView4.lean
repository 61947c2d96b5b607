/- Package view: Lay. -/
import Derived.Test.YtkdnppehlnmlgaaView3
namespace Go.Proofs.Ytkdnppehlnmlgaa.Vw
open Go.RowKit Go.Proofs.Ytkdnppehlnmlgaa.Ar Go.Proofs.Ytkdnppehlnmlgaa.Mx
set_option linter.unusedVariables false
set_option linter.unusedSimpArgs false
def Hd.word (h : Hd) : Nat → Int
  | 0 => h.mn
  | 1 => h.ct
  | 2 => h.nx
  | 3 => h.ld
  | 4 => h.mt
  | 5 => h.rp
  | _ => h.st
def layHN (s : St) (h : Hd) : Nat → St
  | 0 => s
  | i + 1 => (layHN s h i).poke (h.at_ + i) (h.word i)
def layCsN (s : St) (a : Int) (cs : List Ce) : Nat → St
  | 0 => s
  | i + 1 => layC (layCsN s a cs i) (a + 7 + 3 * i) (cs.getD i ⟨0, 0, 0⟩)
def layS (s : St) (h : Hd) (cs : List Ce) : St := layCsN (layHN s h 7) h.at_ cs cs.length
def LhAt (w : World) (s : St) (h : Hd) (p q : Nat) (u : Value) (wr : World) : Prop := ∃ i, i ≤ 7 ∧ u = .int .i64 (i : Nat) ∧ Ar wr p q (layHN s h i) ∧ Fr [q] w wr
def LkAt (w : World) (s : St) (a : Int) (cs : List Ce) (p q : Nat) (u : Value) (wr : World) : Prop := ∃ i, i ≤ cs.length ∧ u = .int .i64 (i : Nat) ∧ Ar wr p q (layCsN s a cs i) ∧ Fr [q] w wr
theorem frField (a0 a1 a2 a3 a4 a5 a6 a7 : Value) (W : World) : (Instr.field 55 (.agg #[a0, a1, a2, a3, a4, a5, a6, a7]) 1).run Try.prog W = .ok (.agg #[a1, a2, a3, a4, a5, a6, a7]) W := by kernel_rfl
theorem ix7 (a0 a1 a2 a3 a4 a5 a6 : Value) (W : World) : (Instr.index 53 (.agg #[a0, a1, a2, a3, a4, a5, a6]) (.int .i64 0)).run Try.prog W = .ok a0 W ∧ (Instr.index 53 (.agg #[a0, a1, a2, a3, a4, a5, a6]) (.int .i64 1)).run Try.prog W = .ok a1 W ∧ (Instr.index 53 (.agg #[a0, a1, a2, a3, a4, a5, a6]) (.int .i64 2)).run Try.prog W = .ok a2 W ∧ (Instr.index 53 (.agg #[a0, a1, a2, a3, a4, a5, a6]) (.int .i64 3)).run Try.prog W = .ok a3 W ∧ (Instr.index 53 (.agg #[a0, a1, a2, a3, a4, a5, a6]) (.int .i64 4)).run Try.prog W = .ok a4 W ∧ (Instr.index 53 (.agg #[a0, a1, a2, a3, a4, a5, a6]) (.int .i64 5)).run Try.prog W = .ok a5 W ∧ (Instr.index 53 (.agg #[a0, a1, a2, a3, a4, a5, a6]) (.int .i64 6)).run Try.prog W = .ok a6 W :=
  ⟨by kernel_rfl, by kernel_rfl, by kernel_rfl, by kernel_rfl, by kernel_rfl, by kernel_rfl, by kernel_rfl⟩
theorem hdBd {n : Nat} {c a : Int} (h : thereB n c a = true) : 0 ≤ a ∧ a ≤ n - (7 + 3 * c) := by unfold thereB at h; simpa using h
theorem two_boxes (w : World) (t n wd v : Int) (h : Hd) (lv : Value) : Fr [] w ((w.alloc (.cells #[.int .i64 t, .int .i64 n, .int .i64 wd, .int .i64 v] 38)).alloc (.cells (chC h lv) 26)) ∧
    Ob ((w.alloc (.cells #[.int .i64 t, .int .i64 n, .int .i64 wd, .int .i64 v] 38)).alloc (.cells (chC h lv) 26)) w.heap.size 38 #[.int .i64 t, .int .i64 n, .int .i64 wd, .int .i64 v] ∧
    Ob ((w.alloc (.cells #[.int .i64 t, .int .i64 n, .int .i64 wd, .int .i64 v] 38)).alloc (.cells (chC h lv) 26)) (w.heap.size + 1) 26 (chC h lv) :=
  ⟨((Fr.refl [] w).alloc _).alloc _, (Ob.new w _ _).alloc _, Ob.newAt (sizeA _ _) _ _⟩
theorem lay_form (t wd v n : Int) (h : Hd) (cs : List Ce) (lv : Value) (p q : Nat) (w : World) (hn : (cs.length : Int) ≠ n) (hl : cs.length ≤ 1000) (hs : Sq fC w lv cs) :
    Calls Try.prog 13 #[.agg #[.int .i64 t, .int .i64 n, .int .i64 wd, .int .i64 v], .pointer (some ⟨p, 0, none⟩), chV h lv] w fun e w' => e = .returned (.iface 50 (.int .i64 10)) ∧ Fr [] w w' := by
  have isE := Er.isE
  obtain ⟨a, cap, rfl, -, -, -⟩ := hs
  obtain ⟨F1, o0, o1⟩ := two_boxes w t n wd v h (.slice a cs.length cap)
  obtain ⟨-, k1, -, -⟩ := Pl.cells4 o0
  obtain ⟨-, -, -, -, -, -, -, -, q8⟩ := ch_cells o1
  have g : ((cs.length : Int) != n) = true := by simpa using hn
  unfold chV
  unfold chC at F1 o0 o1 k1 q8
  clear o0 o1 hn
  go_enter Try.func13, Try.ntmps13
  go_wp2
  go_ret
  exact ⟨rfl, F1⟩
theorem lay_place (t wd v : Int) (n : Nat) (h : Hd) (cs : List Ce) (lv : Value) (p q : Nat) (s : St) (w : World) (h1 : 1 ≤ n) (h2 : n ≤ 16) (h3 : n ≤ s.l.length) (h4 : s.l.length ≤ 20000) (hA : Ar w p q s) (hn : cs.length = n) (hs : Sq fC w lv cs) (ht : thereB s.l.length n h.at_ = false) :
    Calls Try.prog 13 #[.agg #[.int .i64 t, .int .i64 n, .int .i64 wd, .int .i64 v], .pointer (some ⟨p, 0, none⟩), chV h lv] w fun e w' => e = .returned (.iface 50 (.int .i64 11)) ∧ Fr [] w w' := by
  have isE := Er.isE
  obtain ⟨a, cap, rfl, -, -, -⟩ := hs
  obtain ⟨F1, o0, o1⟩ := two_boxes w t n wd v h (.slice a cs.length cap)
  obtain ⟨k0, k1, k2, k3⟩ := Pl.cells4 o0
  obtain ⟨q0, -, -, -, -, -, -, -, q8⟩ := ch_cells o1
  have g : ((cs.length : Int) != n) = false := by simp [hn]
  have A1 := hA.kept F1 (by simp) (by simp)
  have HT := Lib.hid ht
  have HN := Lib.hid hn
  unfold chV
  unfold chC at F1 o0 o1 k0 k1 k2 k3 q0 q8 A1
  clear o0 o1 hn ht
  go_enter Try.func13, Try.ntmps13
  go_wp2_with fail
  refine (there_any t n wd v h.at_ p q s _ (by omega) (by omega) (by omega) h4 A1).mono ?_; rintro e w2 ⟨rfl, F2⟩
  rw [HT.out]
  clear k0 k1 k2 k3 q0 q8
  go_wp2
  go_ret
  exact ⟨rfl, F1.trans F2⟩
set_option maxHeartbeats 3200000 in
theorem lay_yes (t wd v : Int) (n : Nat) (h : Hd) (cs : List Ce) (lv : Value) (p q : Nat) (s : St) (w : World) (h1 : 1 ≤ n) (h2 : n ≤ 16) (h3 : n ≤ s.l.length) (h4 : s.l.length ≤ 20000) (hA : Ar w p q s) (hn : cs.length = n) (hs : Sq fC w lv cs) (hq : q ∉ lv.ownBlock.toList) (ht : thereB s.l.length n h.at_ = true) :
    Calls Try.prog 13 #[.agg #[.int .i64 t, .int .i64 n, .int .i64 wd, .int .i64 v], .pointer (some ⟨p, 0, none⟩), chV h lv] w fun e w' => e = .returned .nilIface ∧ Ar w' p q (layS s h cs) ∧ Fr [q] w w' := by
  have hbd := hdBd ht
  obtain ⟨a, cap, rfl, hcap, hmax, -⟩ := id hs
  obtain ⟨F1, o0, o1⟩ := two_boxes w t n wd v h (.slice a cs.length cap)
  obtain ⟨k0, k1, k2, k3⟩ := Pl.cells4 o0
  obtain ⟨q0, q1, q2, q3, q4, q5, q6, q7, q8⟩ := ch_cells o1
  have g : ((cs.length : Int) != n) = false := by simp [hn]
  have A1 := hA.kept F1 (by simp) (by simp)
  have hpq := hA.lt
  have HT := Lib.hid ht
  have HN := Lib.hid hn
  have hff := frField
  unfold chV
  unfold chC at F1 o0 o1 k0 k1 k2 k3 q0 q1 q2 q3 q4 q5 q6 q7 q8 A1
  clear o0 hn ht hA
  go_enter Try.func13, Try.ntmps13
  go_wp2_with fail
  refine (there_any t n wd v h.at_ p q s _ (by omega) (by omega) (by omega) h4 A1).mono ?_; rintro e w2 ⟨rfl, F2⟩
  rw [HT.out]
  replace A1 := A1.kept F2 (by simp) (by simp)
  replace o1 := o1.up F2
  replace F1 := F1.trans F2
  clear k0 k1 k2 k3 q0 q1 q2 q3 q4 q5 q6 q7 q8 F2
  obtain ⟨q0, q1, q2, q3, q4, q5, q6, q7, q8⟩ := ch_cells (lv := .slice a cs.length cap) o1
  go_wp2_with fail
  refine (frameOf_of _ _ _ _ _ _ _ _ _ _).mono ?_; rintro e w3 ⟨rfl, F3⟩
  replace A1 := A1.kept F3 (by simp) (by simp)
  replace o1 := o1.up F3
  replace F1 := F1.trans F3
  clear q0 q1 q2 q3 q4 q5 q6 q7 q8 F3
  go_wp2_with fail
  clear hff
  go_loopw [30] (LhAt w3 s h p q) (fun u _ => 7 - (intOf u).toNat)
  case atStart => exact ⟨0, by omega, rfl, A1, Fr.refl _ _⟩
  case round =>
    obtain ⟨i, hi, rfl, A, F⟩ := hrel
    have hc : i = 0 ∨ i = 1 ∨ i = 2 ∨ i = 3 ∨ i = 4 ∨ i = 5 ∨ i = 6 ∨ i = 7 := by omega
    clear A1
    rcases hc with rfl | rfl | rfl | rfl | rfl | rfl | rfl | rfl
    · have xk := fun W => (ix7 (.int .i64 h.mn) (.int .i64 h.ct) (.int .i64 h.nx) (.int .i64 h.ld) (.int .i64 h.mt) (.int .i64 h.rp) (.int .i64 h.st) W).1
      obtain ⟨q0, -, -, -, -, -, -, -, -⟩ := ch_cells (lv := .slice a cs.length cap) (o1.kept F (by simp; omega))
      go_wp2_with fail
      refine (poke_any _ p q _ _ _ A).mono ?_; rintro e w5 ⟨rfl, A5, F5⟩
      clear xk q0
      go_wp2_with fail
      go_roundw
      case rel => exact ⟨1, by omega, by go_num, by simpa [layHN, Hd.word] using A5, F.trans F5⟩
      case measure => simp [intOf]
    · have xk := fun W => (ix7 (.int .i64 h.mn) (.int .i64 h.ct) (.int .i64 h.nx) (.int .i64 h.ld) (.int .i64 h.mt) (.int .i64 h.rp) (.int .i64 h.st) W).2.1
      obtain ⟨q0, -, -, -, -, -, -, -, -⟩ := ch_cells (lv := .slice a cs.length cap) (o1.kept F (by simp; omega))
      go_wp2_with fail
      refine (poke_any _ p q _ _ _ A).mono ?_; rintro e w5 ⟨rfl, A5, F5⟩
      clear xk q0
      go_wp2_with fail
      go_roundw
      case rel => exact ⟨2, by omega, by go_num, by simpa [layHN, Hd.word] using A5, F.trans F5⟩
      case measure => simp [intOf]
    · have xk := fun W => (ix7 (.int .i64 h.mn) (.int .i64 h.ct) (.int .i64 h.nx) (.int .i64 h.ld) (.int .i64 h.mt) (.int .i64 h.rp) (.int .i64 h.st) W).2.2.1
      obtain ⟨q0, -, -, -, -, -, -, -, -⟩ := ch_cells (lv := .slice a cs.length cap) (o1.kept F (by simp; omega))
      go_wp2_with fail
      refine (poke_any _ p q _ _ _ A).mono ?_; rintro e w5 ⟨rfl, A5, F5⟩
      clear xk q0
      go_wp2_with fail
      go_roundw
      case rel => exact ⟨3, by omega, by go_num, by simpa [layHN, Hd.word] using A5, F.trans F5⟩
      case measure => simp [intOf]
    · have xk := fun W => (ix7 (.int .i64 h.mn) (.int .i64 h.ct) (.int .i64 h.nx) (.int .i64 h.ld) (.int .i64 h.mt) (.int .i64 h.rp) (.int .i64 h.st) W).2.2.2.1
      obtain ⟨q0, -, -, -, -, -, -, -, -⟩ := ch_cells (lv := .slice a cs.length cap) (o1.kept F (by simp; omega))
      go_wp2_with fail
      refine (poke_any _ p q _ _ _ A).mono ?_; rintro e w5 ⟨rfl, A5, F5⟩
      clear xk q0
      go_wp2_with fail
      go_roundw
      case rel => exact ⟨4, by omega, by go_num, by simpa [layHN, Hd.word] using A5, F.trans F5⟩
      case measure => simp [intOf]
    · have xk := fun W => (ix7 (.int .i64 h.mn) (.int .i64 h.ct) (.int .i64 h.nx) (.int .i64 h.ld) (.int .i64 h.mt) (.int .i64 h.rp) (.int .i64 h.st) W).2.2.2.2.1
      obtain ⟨q0, -, -, -, -, -, -, -, -⟩ := ch_cells (lv := .slice a cs.length cap) (o1.kept F (by simp; omega))
      go_wp2_with fail
      refine (poke_any _ p q _ _ _ A).mono ?_; rintro e w5 ⟨rfl, A5, F5⟩
      clear xk q0
      go_wp2_with fail
      go_roundw
      case rel => exact ⟨5, by omega, by go_num, by simpa [layHN, Hd.word] using A5, F.trans F5⟩
      case measure => simp [intOf]
    · have xk := fun W => (ix7 (.int .i64 h.mn) (.int .i64 h.ct) (.int .i64 h.nx) (.int .i64 h.ld) (.int .i64 h.mt) (.int .i64 h.rp) (.int .i64 h.st) W).2.2.2.2.2.1
      obtain ⟨q0, -, -, -, -, -, -, -, -⟩ := ch_cells (lv := .slice a cs.length cap) (o1.kept F (by simp; omega))
      go_wp2_with fail
      refine (poke_any _ p q _ _ _ A).mono ?_; rintro e w5 ⟨rfl, A5, F5⟩
      clear xk q0
      go_wp2_with fail
      go_roundw
      case rel => exact ⟨6, by omega, by go_num, by simpa [layHN, Hd.word] using A5, F.trans F5⟩
      case measure => simp [intOf]
    · have xk := fun W => (ix7 (.int .i64 h.mn) (.int .i64 h.ct) (.int .i64 h.nx) (.int .i64 h.ld) (.int .i64 h.mt) (.int .i64 h.rp) (.int .i64 h.st) W).2.2.2.2.2.2
      obtain ⟨q0, -, -, -, -, -, -, -, -⟩ := ch_cells (lv := .slice a cs.length cap) (o1.kept F (by simp; omega))
      go_wp2_with fail
      refine (poke_any _ p q _ _ _ A).mono ?_; rintro e w5 ⟨rfl, A5, F5⟩
      clear xk q0
      go_wp2_with fail
      go_roundw
      case rel => exact ⟨7, by omega, by go_num, by simpa [layHN, Hd.word] using A5, F.trans F5⟩
      case measure => simp [intOf]
    · rw [show ((7 : Nat) : Int) = 7 from rfl]
      have o4 := o1.kept F (by simp; omega)
      have hs4 := (hs.up F1).kept F (fun g hg hi => hq (by rw [List.mem_singleton.1 hi] at hg; exact hg))
      have G := (F1.mono (T := [q]) (by simp)).trans F
      have A4 := A
      clear o1 hs F A F1
      obtain ⟨q0, -, -, -, -, -, -, -, q8⟩ := ch_cells (lv := .slice a cs.length cap) o4
      go_wp2_with fail
      clear q0 q8
      go_loopw [45] (LkAt wr (layHN s h 7) h.at_ cs p q) (fun u _ => cs.length - (intOf u).toNat)
      case atStart => exact ⟨0, by omega, rfl, A4, Fr.refl _ _⟩
      case round =>
        obtain ⟨i, hi, rfl, A, F⟩ := hrel
        by_cases hlt : i < cs.length
        · obtain ⟨x, hx⟩ : ∃ x, cs[i]? = some x := ⟨cs[i], List.getElem?_eq_getElem hlt⟩
          have hs5 := hs4.kept F (fun g hg hi => hq (by rw [List.mem_singleton.1 hi] at hg; exact hg))
          obtain ⟨g5, off, rfl, d0, d1, d2⟩ := ce_cells hs5 hx
          have F6 := (Fr.refl [] wr).alloc (.cells #[.int .i64 x.s, .int .i64 x.k, .int .i64 x.d] 29)
          have o6 := Ob.new wr 29 #[.int .i64 x.s, .int .i64 x.k, .int .i64 x.d]
          have A6 := A.kept F6 (by simp) (by simp)
          have o5 := (o4.kept F (by simp; omega)).up F6
          have hq6 : q < wr.heap.size := A.lt.2
          have hcl : cs.length ≤ 16 := by have := HN.out; omega
          have HX := Lib.hid hx
          clear hx hs5
          go_wp2_with fail
          clear d0 d1 d2
          refine wp_region_env (by kernel_rfl) [q] (fun w2 F2 => ?_)
          refine env_pass [true, true, true, true, true, true, false] 1 (n := 58) (listed' := #[true, true, true, true, true, true, false]) rfl (by kernel_rfl) (by kernel_rfl) (by kernel_rfl) rfl (by kernel_rfl) (fun _ _ d _ _ h => by cases d <;> exact h) (F2.mono (by simp)) ?_
          apply Exists.intro
          refine ⟨fun wf Ff => ?_, ?_⟩
          · have k0 := In.cell ((o5.kept Ff (by simp; omega)).cell (i := 0) rfl)
            have o7 := o6.kept Ff (by simp; omega)
            have l0 := In.cell (o7.cell (i := 0) rfl)
            have l1 := In.cell (o7.cell (i := 1) rfl)
            have l2 := In.cell (o7.cell (i := 2) rfl)
            clear o7
            simp only [sel]
            repeat (go_big_quiet_step ((go_at_call 28; exact Calls.in_same (Pl.state_any h.at_ i hbd.1 (by omega) (by omega) (by omega) _))))
            exact wpQuiet_nil rfl
          refine env_one 6 (by kernel_rfl) rfl rfl (fun w7 F7 => ?_)
          have E := F2.trans F7
          replace A6 := A6.kept E (by simp) (by simp)
          have FW := F.trans ((F6.trans E).mono (T := [q]) (by simp))
          clear F2 F7 o5 o6 F6
          go_wp2_with fail
          refine (layCell_any _ x p q _ _ (by omega) (by omega) A6).mono ?_; rintro e w8 ⟨rfl, A8, F8⟩
          go_wp2_with fail
          refine nx_normal ⟨(E.mono (by simp)).trans F8, ?_⟩
          refine env_done (by kernel_rfl) (fun w9 F9 => ?_)
          have A9 := A8.kept F9 (by simp) (by simp)
          replace FW := (FW.trans F8).then F9
          clear A8 F8 F9 E A6
          go_wp2
          exact ⟨⟨i + 1, by omega, by go_num, by
            have e : cs.getD i ⟨0, 0, 0⟩ = x := by rw [List.getD_eq_getElem?_getD, HX.out]; rfl
            simp only [layCsN]; rw [e]; exact A9, FW⟩, by simp [intOf]; omega⟩
        · obtain rfl : i = cs.length := by omega
          go_wp2
          go_ret
          exact ⟨rfl, A, G.trans F⟩
end Go.Proofs.Ytkdnppehlnmlgaa.Vw
