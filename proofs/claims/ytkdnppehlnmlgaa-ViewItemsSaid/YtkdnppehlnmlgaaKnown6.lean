/- The examples that every statement of layer 6 opens with all hold: 'known' returns true. -/
import Derived.Test.YtkdnppehlnmlgaaView4
namespace Go.Proofs.Ytkdnppehlnmlgaa.Vw
open Go.RowKit Go.Proofs.Ytkdnppehlnmlgaa.Ar Go.Proofs.Ytkdnppehlnmlgaa.Mx
set_option linter.unusedVariables false
set_option linter.unusedSimpArgs false
theorem itGuard : Try.prog.eqGuardType Try.prog.depth 31 = false := by kernel_rfl
theorem it_eql (k i o k' i' o' : Int) (W : World) : (binOp .eql 31 (.agg #[.int .i64 k, .int .i64 i, .int .i64 o]) (.agg #[.int .i64 k', .int .i64 i', .int .i64 o'])).run Try.prog W = .ok (.bool (k == k' && i == i' && o == o')) W := by
  have u3 := Try.underlying3
  have a3 : (isAgg 3).run Try.prog W = .ok false W := by kernel_rfl
  have hS : Try.prog.underlying 31 = some (.struct (Try.prog.fieldsOf 31)) := by kernel_rfl
  have hp : Try.prog.stoodInHeld 31 = false := by kernel_rfl
  rw [run_eql_struct, show (10000 : Nat) = 9999 + 1 from rfl, run_equalIn_agg W 9999 31 _ _ hS hp]
  simp only [Program.fieldsOf, Try.underlying31]
  go_simp
  cases h1 : k == k' <;> cases h2 : i == i' <;> cases h3 : o == o' <;> simp_all
def s0 : St := Pl.begun 1 3 100
def h0 : Hd := ⟨15, 0, 0, 0, 0, 0, 0, 0⟩
def cs0 : List Ce := [⟨0, 0, 0⟩, ⟨0, 0, 0⟩, ⟨0, 0, 0⟩]
def cs1 : List Ce := [⟨0, 0, 0⟩, ⟨5, 9, 77⟩, ⟨0, 0, 0⟩]
def s1 : St := layS s0 h0 cs1
theorem len0 : s0.l.length = 100 := by decide +kernel
theorem head0 : headOf s0.l 15 = h0 := by decide +kernel
theorem cells0 : cellsOf s0.l 15 3 = cs0 := by decide +kernel
theorem len1 : s1.l.length = 100 := by decide +kernel
theorem head1 : headOf s1.l 15 = h0 := by decide +kernel
theorem cells1 : cellsOf s1.l 15 3 = cs1 := by decide +kernel
theorem acc1 : s1.n = 0 := by decide +kernel
theorem there0 : thereB s0.l.length 3 15 = true := by decide +kernel
theorem there1 : thereB s1.l.length 3 15 = true := by decide +kernel
theorem there2 : thereB s1.l.length 3 99 = false := by decide +kernel
theorem its1 : itemsC cs1 = [⟨9, 2, 77⟩] := by
  have : verV 5 = 2 := by decide +kernel
  show [(⟨9, verV 5, 77⟩ : It)] = _
  rw [this]
theorem chunk_at0 (p q : Nat) (w : World) (A : Ar w p q s0) : Calls Try.prog 11 #[.agg #[.int .i64 1, .int .i64 3, .int .i64 100, .int .i64 1000], .pointer (some ⟨p, 0, none⟩), .int .i64 15] w fun e w' => ∃ b, e = .returned (.tuple #[.agg #[.int .i64 15, .int .i64 0, .int .i64 0, .int .i64 0, .int .i64 0, .int .i64 0, .int .i64 0, .int .i64 0, .slice (some ⟨b, 0, none⟩) 3 3], .nilIface]) ∧ w.heap.size ≤ b ∧ Ob w' b 29 #[.int .i64 0, .int .i64 0, .int .i64 0, .int .i64 0, .int .i64 0, .int .i64 0, .int .i64 0, .int .i64 0, .int .i64 0] ∧ Fr [] w w' := by
  have := chunk_yes 1 100 1000 15 3 p q s0 w (by decide) (by decide) (by rw [len0]; decide) (by rw [len0]; decide) A there0
  rw [head0, cells0] at this
  exact this
theorem chunk_at1 (p q : Nat) (w : World) (A : Ar w p q s1) : Calls Try.prog 11 #[.agg #[.int .i64 1, .int .i64 3, .int .i64 100, .int .i64 1000], .pointer (some ⟨p, 0, none⟩), .int .i64 15] w fun e w' => ∃ b, e = .returned (.tuple #[.agg #[.int .i64 15, .int .i64 0, .int .i64 0, .int .i64 0, .int .i64 0, .int .i64 0, .int .i64 0, .int .i64 0, .slice (some ⟨b, 0, none⟩) 3 3], .nilIface]) ∧ w.heap.size ≤ b ∧ Ob w' b 29 #[.int .i64 0, .int .i64 0, .int .i64 0, .int .i64 5, .int .i64 9, .int .i64 77, .int .i64 0, .int .i64 0, .int .i64 0] ∧ Fr [] w w' := by
  have := chunk_yes 1 100 1000 15 3 p q s1 w (by decide) (by decide) (by rw [len1]; decide) (by rw [len1]; decide) A there1
  rw [head1, cells1] at this
  exact this
theorem sq1 {w : World} {b : Nat} (o : Ob w b 29 #[.int .i64 0, .int .i64 0, .int .i64 0, .int .i64 5, .int .i64 9, .int .i64 77, .int .i64 0, .int .i64 0, .int .i64 0]) : Sq fC w (.slice (some ⟨b, 0, none⟩) 3 3) cs1 := Sq.block o rfl rfl (by decide) (by simp [maxLen])
theorem lay_at0 (p q b : Nat) (w : World) (A : Ar w p q s0) (o : Ob w b 29 #[.int .i64 0, .int .i64 0, .int .i64 0, .int .i64 5, .int .i64 9, .int .i64 77, .int .i64 0, .int .i64 0, .int .i64 0]) (hb : q ≠ b) : Calls Try.prog 13 #[.agg #[.int .i64 1, .int .i64 3, .int .i64 100, .int .i64 1000], .pointer (some ⟨p, 0, none⟩), .agg #[.int .i64 15, .int .i64 0, .int .i64 0, .int .i64 0, .int .i64 0, .int .i64 0, .int .i64 0, .int .i64 0, (.slice (some ⟨b, 0, none⟩) 3 3)]] w fun e w' => e = .returned .nilIface ∧ Ar w' p q s1 ∧ Fr [q] w w' :=
  lay_yes 1 100 1000 3 h0 cs1 _ p q s0 w (by decide) (by decide) (by rw [len0]; decide) (by rw [len0]; decide) A rfl (sq1 o) (by simpa [Value.ownBlock] using hb) there0
theorem lay_at20 (p q : Nat) (w : World) : Calls Try.prog 13 #[.agg #[.int .i64 1, .int .i64 3, .int .i64 100, .int .i64 1000], .pointer (some ⟨p, 0, none⟩), .agg #[.int .i64 20, .int .i64 0, .int .i64 0, .int .i64 0, .int .i64 0, .int .i64 0, .int .i64 0, .int .i64 0, .slice none 0 0]] w fun e w' => e = .returned (.iface 50 (.int .i64 10)) ∧ Fr [] w w' :=
  lay_form 1 100 1000 3 ⟨20, 0, 0, 0, 0, 0, 0, 0⟩ [] _ p q w (by decide) (by decide) (Sq.nil w)
theorem chunk_at99 (p q : Nat) (w : World) (A : Ar w p q s1) : Calls Try.prog 11 #[.agg #[.int .i64 1, .int .i64 3, .int .i64 100, .int .i64 1000], .pointer (some ⟨p, 0, none⟩), .int .i64 99] w fun e w' => e = .returned (.tuple #[.agg #[.int .i64 0, .int .i64 0, .int .i64 0, .int .i64 0, .int .i64 0, .int .i64 0, .int .i64 0, .int .i64 0, .slice none 0 0], .iface 50 (.int .i64 11)]) ∧ Fr [] w w' :=
  chunk_no 1 100 1000 99 3 p q s1 w (by decide) (by decide) (by rw [len1]; decide) (by rw [len1]; decide) A there2
theorem items_at1 (b : Nat) (w : World) (o : Ob w b 29 #[.int .i64 0, .int .i64 0, .int .i64 0, .int .i64 5, .int .i64 9, .int .i64 77, .int .i64 0, .int .i64 0, .int .i64 0]) : Calls Try.prog 7 #[.agg #[.int .i64 15, .int .i64 0, .int .i64 0, .int .i64 0, .int .i64 0, .int .i64 0, .int .i64 0, .int .i64 0, (.slice (some ⟨b, 0, none⟩) 3 3)]] w fun e w' => (∃ g cap, e = .returned (.slice (some ⟨g, 0, none⟩) 1 cap) ∧ w'.cell? ⟨g, 0, none⟩ = some (.int .i64 9) ∧ w'.cell? ⟨g, 1, none⟩ = some (.int .i64 2) ∧ w'.cell? ⟨g, 2, none⟩ = some (.int .i64 77)) ∧ Fr [] w w' := by
  refine (items_any h0 cs1 _ w (by decide) ⟨_, rfl, sq1 o⟩).mono ?_
  rintro e w' ⟨⟨u, rfl, r⟩, F⟩
  rw [its1] at r
  refine ⟨?_, F⟩
  obtain ⟨a, cap, rfl, -, h | ⟨g, rfl, -, hc⟩⟩ := row_cell r
  · simp at h
  · exact ⟨g, cap, rfl, hc 0 _ rfl, hc 1 _ rfl, hc 2 _ rfl⟩
theorem same_at1 (b b2 : Nat) (w : World) (o : Ob w b 29 #[.int .i64 0, .int .i64 0, .int .i64 0, .int .i64 5, .int .i64 9, .int .i64 77, .int .i64 0, .int .i64 0, .int .i64 0]) (o2 : Ob w b2 29 #[.int .i64 0, .int .i64 0, .int .i64 0, .int .i64 5, .int .i64 9, .int .i64 77, .int .i64 0, .int .i64 0, .int .i64 0]) : Calls Try.prog 8 #[.agg #[.int .i64 15, .int .i64 0, .int .i64 0, .int .i64 0, .int .i64 0, .int .i64 0, .int .i64 0, .int .i64 0, (.slice (some ⟨b, 0, none⟩) 3 3)], .agg #[.int .i64 15, .int .i64 0, .int .i64 0, .int .i64 0, .int .i64 0, .int .i64 0, .int .i64 0, .int .i64 0, (.slice (some ⟨b2, 0, none⟩) 3 3)]] w fun e w' => e = .returned (.bool true) ∧ Fr [] w w' := by
  have := same_any h0 h0 cs1 cs1 _ _ w (by decide) (by decide) ⟨_, rfl, sq1 o⟩ ⟨_, rfl, sq1 o2⟩
  rw [show decide (h0 = h0 ∧ cs1 = cs1) = true by decide] at this
  exact this
theorem acc_at (p q : Nat) (w : World) (A : Ar w p q s1) : Calls Try.prog 15 #[.pointer (some ⟨p, 0, none⟩)] w fun e w' => e = .returned (.int .i64 0) ∧ w = w' := by
  have := accesses_any w p q s1 A
  rw [acc1] at this
  exact this
set_option maxRecDepth 100000 in
set_option maxHeartbeats 3200000 in
theorem known_true (w : World) : Calls Try.prog 5 #[] w fun e w' => e = .returned (.bool true) ∧ Fr [] w w' := by
  have isE := Er.isE
  go_enter Try.func5, Try.ntmps5
  go_wp2_with fail
  refine (Pl.conf_any 1 3 100 _).mono ?_; rintro e w1 ⟨rfl, F1⟩
  have G := F1.alloc (.cells #[.int .i64 1, .int .i64 3, .int .i64 100, .int .i64 1000] 38)
  have oc := Ob.new w1 38 #[.int .i64 1, .int .i64 3, .int .i64 100, .int .i64 1000]
  obtain ⟨c0, c1, c2, c3⟩ := Pl.cells4 oc
  have hcw := oc.lt
  have hw1 := F1.size
  clear F1
  go_wp2_with fail
  refine (Pl.make_yes 1 3 100 1000 (by decide) _).mono ?_; rintro e w2 ⟨p, q, rfl, hp, hq, A, F2⟩
  rw [sizeA] at hp hq
  replace oc := oc.up F2
  replace hcw := oc.lt
  have hA2 := A.lt
  replace G := G.trans F2
  have hG := G.size
  have A : Ar w2 p q s0 := A
  clear F2 c0 c1 c2 c3
  go_wp2_with fail
  generalize hbc : w1.heap.size = bc at *
  refine wp_region_env (by kernel_rfl) [] (fun w3 F3 => ?_)
  refine env_pass [true, true, true, true, false, false, false, false, false, false, false] 7 (n := 101) (listed' := #[true, true, true, true, false, false, false, false, false, false, false]) rfl (by kernel_rfl) (by kernel_rfl) (by kernel_rfl) rfl (by kernel_rfl) (fun _ _ d _ _ h => by cases d <;> exact h) (F3.mono (by simp)) ?_
  apply Exists.intro
  refine ⟨fun wf Ff => ?_, ?_⟩
  · obtain ⟨c0, c1, c2, c3⟩ := Pl.cells4 (oc.up Ff)
    have k0 := In.cell c0
    have k1 := In.cell c1
    have k2 := In.cell c2
    have k3 := In.cell c3
    clear c0 c1 c2 c3
    simp only [sel]
    repeat (go_big_quiet_step ((go_at_call 12; exact Calls.in_ (Pl.first_any 1 3 100 1000 (by decide) (by decide) _))))
    exact wpQuiet_nil rfl
  refine env_ready [4, 8] (by kernel_rfl) (by simp) (fun w10 F10 m hm o ho => ?_)
  have E := F3.trans F10
  clear F10 F3
  simp only [List.mem_cons, List.not_mem_nil, or_false] at hm
  rcases hm with rfl | rfl
  · obtain rfl := Option.some.inj ho
    go_wp2_with fail
    refine (chunk_at0 p q _ (A.kept E (by simp) (by simp))).mono ?_; rintro e w4 ⟨b, rfl, hb, ob, F4⟩
    have hE := E.size
    replace E := E.trans F4
    clear F4 ho
    go_wp2_with fail
    refine nx_normal ⟨E, ?_⟩
    refine env_pass [false, false, false, false, false, true, true, true, false, false, false] 3 (n := 101) (listed' := #[true, true, true, true, true, true, true, true, false, false, false]) rfl (by kernel_rfl) (by kernel_rfl) (by kernel_rfl) rfl (by kernel_rfl) (fun _ _ d _ _ h => by cases d <;> exact h) E ?_
    apply Exists.intro
    refine ⟨fun wf Ff => ?_, ?_⟩
    · simp only [sel]
      repeat (go_big_quiet_step (fail))
      exact wpQuiet_nil rfl
    refine env_one 8 (by kernel_rfl) rfl rfl (fun w5 F5 => ?_)
    replace E := E.trans F5
    replace ob := ob.up F5
    have hob := ob.lt
    clear F5
    go_wp2_with fail
    have F6 := (Fr.refl [] w5).alloc (.cells #[.int .i64 0, .int .i64 0, .int .i64 0, .int .i64 0, .int .i64 0, .int .i64 0, .int .i64 0, .int .i64 0, .slice none 0 0] 26)
    have ox := Ob.new w5 26 (chC ⟨0, 0, 0, 0, 0, 0, 0, 0⟩ (.slice none 0 0))
    replace E := E.trans F6
    replace ob := ob.up F6
    have hbx : w2.heap.size ≤ w5.heap.size ∧ w2.heap.size ≤ b ∧ b ≠ w5.heap.size := by refine ⟨?_, ?_, ?_⟩ <;> omega
    unfold chC at ox
    clear F6 hob hE hb
    refine nx_normal ⟨E, ?_⟩
    generalize w5.heap.size = bx at *
    refine env_one 9 (by kernel_rfl) rfl rfl (fun w7 F7 => ?_)
    replace ox := ox.up F7
    replace ob := ob.up F7
    replace E := E.trans F7
    clear F7
    obtain ⟨x0, x1, x2, x3, x4, x5, x6, x7, x8⟩ := ch_cells (h := ⟨0, 0, 0, 0, 0, 0, 0, 0⟩) (lv := .slice none 0 0) ox
    have zx := ox.frozen
    have o8 := (Ob.set (Ob.set (Ob.set (Ob.set (Ob.set (Ob.set (Ob.set (Ob.set (Ob.set ox (i := 0) (.int .i64 15)) (i := 1) (.int .i64 0)) (i := 2) (.int .i64 0)) (i := 3) (.int .i64 0)) (i := 4) (.int .i64 0)) (i := 5) (.int .i64 0)) (i := 6) (.int .i64 0)) (i := 7) (.int .i64 0)) (i := 8) (.slice (some ⟨b, 0, none⟩) 3 3))
    have F8 : Fr [bx] w7 (((((((((w7.setCell ⟨bx, 0, none⟩ (.int .i64 15)).setCell ⟨bx, 1, none⟩ (.int .i64 0)).setCell ⟨bx, 2, none⟩ (.int .i64 0)).setCell ⟨bx, 3, none⟩ (.int .i64 0)).setCell ⟨bx, 4, none⟩ (.int .i64 0)).setCell ⟨bx, 5, none⟩ (.int .i64 0)).setCell ⟨bx, 6, none⟩ (.int .i64 0)).setCell ⟨bx, 7, none⟩ (.int .i64 0)).setCell ⟨bx, 8, none⟩ (.slice (some ⟨b, 0, none⟩) 3 3)) := (Fr.setCell' (Fr.setCell' (Fr.setCell' (Fr.setCell' (Fr.setCell' (Fr.setCell' (Fr.setCell' (Fr.setCell' (Fr.setCell' (Fr.refl [bx] w7) (b := bx) (i := 0) (.int .i64 15) (by simp)) (b := bx) (i := 1) (.int .i64 0) (by simp)) (b := bx) (i := 2) (.int .i64 0) (by simp)) (b := bx) (i := 3) (.int .i64 0) (by simp)) (b := bx) (i := 4) (.int .i64 0) (by simp)) (b := bx) (i := 5) (.int .i64 0) (by simp)) (b := bx) (i := 6) (.int .i64 0) (by simp)) (b := bx) (i := 7) (.int .i64 0) (by simp)) (b := bx) (i := 8) (.slice (some ⟨b, 0, none⟩) 3 3) (by simp))
    rw [sets9] at o8
    go_wp2_with fail
    generalize (((((((((w7.setCell ⟨bx, 0, none⟩ (.int .i64 15)).setCell ⟨bx, 1, none⟩ (.int .i64 0)).setCell ⟨bx, 2, none⟩ (.int .i64 0)).setCell ⟨bx, 3, none⟩ (.int .i64 0)).setCell ⟨bx, 4, none⟩ (.int .i64 0)).setCell ⟨bx, 5, none⟩ (.int .i64 0)).setCell ⟨bx, 6, none⟩ (.int .i64 0)).setCell ⟨bx, 7, none⟩ (.int .i64 0)).setCell ⟨bx, 8, none⟩ (.slice (some ⟨b, 0, none⟩) 3 3)) = w8 at *
    clear x0 x1 x2 x3 x4 x5 x6 x7 x8 zx ox
    replace ob := ob.kept F8 (by simp; omega)
    replace E := E.own F8 (by simp; omega)
    clear F8
    refine nx_normal ⟨E, ?_⟩
    refine env_one 10 (by kernel_rfl) rfl rfl (fun w9 F9 => ?_)
    replace o8 := o8.up F9
    replace ob := ob.up F9
    replace E := E.trans F9
    clear F9
    go_wp2_with fail
    refine nx_normal ⟨E, ?_⟩
    refine env_done (by kernel_rfl) (fun w10 F10 => ?_)
    replace o8 := o8.up F10
    replace ob := ob.up F10
    replace E := E.trans F10
    clear F10
    replace A := A.kept E (by simp) (by simp)
    replace oc := oc.up E
    have EG := G.trans E
    have hpq := A.lt
    have hob := ob.lt
    have ho8 := o8.lt
    clear G
    obtain ⟨x0, x1, x2, x3, x4, x5, x6, x7, x8⟩ := ch_cells (h := h0) (lv := .slice (some ⟨b, 0, none⟩) 3 3) o8
    unfold h0 at x0 x1 x2 x3 x4 x5 x6 x7
    simp only at x0 x1 x2 x3 x4 x5 x6 x7
    have zb := ob.frozen
    have y3 : w10.cell? ⟨b, 3, none⟩ = some (.int .i64 0) := ob.cell (i := 3) rfl
    have y4 : w10.cell? ⟨b, 4, none⟩ = some (.int .i64 0) := ob.cell (i := 4) rfl
    have y5 : w10.cell? ⟨b, 5, none⟩ = some (.int .i64 0) := ob.cell (i := 5) rfl
    obtain ⟨c0, c1, c2, c3⟩ := Pl.cells4 oc
    have n1 : bx ≠ b := fun h => hbx.2.2 h.symm
    have n2 : bc ≠ b := by omega
    go_wp2_with fail
    have F5 : Fr [b] w10 (((w10.setCell ⟨b, 3, none⟩ (.int .i64 5)).setCell ⟨b, 4, none⟩ (.int .i64 9)).setCell ⟨b, 5, none⟩ (.int .i64 77)) := Fr.setCell' (Fr.setCell' (Fr.setCell (b := b) (i := 3) (.int .i64 5) (by simp)) (b := b) (i := 4) (.int .i64 9) (by simp)) (b := b) (i := 5) (.int .i64 77) (by simp)
    have o5 : Ob (((w10.setCell ⟨b, 3, none⟩ (.int .i64 5)).setCell ⟨b, 4, none⟩ (.int .i64 9)).setCell ⟨b, 5, none⟩ (.int .i64 77)) b 29 #[.int .i64 0, .int .i64 0, .int .i64 0, .int .i64 5, .int .i64 9, .int .i64 77, .int .i64 0, .int .i64 0, .int .i64 0] := Ob.set (Ob.set (Ob.set ob (i := 3) (.int .i64 5)) (i := 4) (.int .i64 9)) (i := 5) (.int .i64 77)
    generalize (((w10.setCell ⟨b, 3, none⟩ (.int .i64 5)).setCell ⟨b, 4, none⟩ (.int .i64 9)).setCell ⟨b, 5, none⟩ (.int .i64 77)) = w11 at *
    clear x0 x1 x2 x3 x4 x5 x6 x7 x8 y3 y4 y5 c0 c1 c2 c3 zb ob
    replace A := A.kept F5 (by simp; omega) (by simp; omega)
    replace oc := oc.kept F5 (by simpa using n2)
    replace o8 := o8.kept F5 (by simpa using n1)
    replace EG := EG.own F5 (by simp; omega)
    clear F5
    have nqb : q ≠ b := by omega
    have nqx : q ≠ bx := by omega
    have nqc : q ≠ bc := by omega
    refine (lay_at0 p q b _ A o5 nqb).mono ?_; rintro e w12 ⟨rfl, A2, F12⟩
    replace oc := oc.kept F12 (by simpa using nqc.symm)
    replace o8 := o8.kept F12 (by simpa using nqx.symm)
    replace o5 := o5.kept F12 (by simpa using nqb.symm)
    replace EG := EG.own F12 (by simp; omega)
    clear F12 A hpq
    have hsz := EG.size
    obtain ⟨c0, c1, c2, c3⟩ := Pl.cells4 oc
    obtain ⟨x0, x1, x2, x3, x4, x5, x6, x7, x8⟩ := ch_cells (h := h0) (lv := .slice (some ⟨b, 0, none⟩) 3 3) o8
    unfold h0 at x0 x1 x2 x3 x4 x5 x6 x7
    simp only at x0 x1 x2 x3 x4 x5 x6 x7
    go_wp2_with fail
    refine (chunk_at1 p q _ A2).mono ?_; rintro e w13 ⟨b2, rfl, hb2, ob2, F13⟩
    replace A2 := A2.kept F13 (by simp) (by simp)
    replace oc := oc.up F13
    replace o8 := o8.up F13
    replace o5 := o5.up F13
    replace EG := EG.trans F13
    clear x0 x1 x2 x3 x4 x5 x6 x7 x8 c0 c1 c2 c3 F13
    go_wp2_with fail
    have F14 := (Fr.refl [] w13).alloc (.cells #[.int .i64 15, .int .i64 0, .int .i64 0, .int .i64 0, .int .i64 0, .int .i64 0, .int .i64 0, .int .i64 0, .slice (some ⟨b2, 0, none⟩) 3 3] 26)
    have oy := Ob.new w13 26 (chC h0 (.slice (some ⟨b2, 0, none⟩) 3 3))
    unfold chC h0 at oy
    simp only at oy
    replace A2 := A2.kept F14 (by simp) (by simp)
    replace oc := oc.up F14
    replace o8 := o8.up F14
    replace o5 := o5.up F14
    replace ob2 := ob2.up F14
    replace EG := EG.trans F14
    clear F14
    generalize (w13.alloc (.cells #[.int .i64 15, .int .i64 0, .int .i64 0, .int .i64 0, .int .i64 0, .int .i64 0, .int .i64 0, .int .i64 0, .slice (some ⟨b2, 0, none⟩) 3 3] 26)) = w14 at *
    generalize w13.heap.size = by_ at *
    refine (items_at1 b2 _ ob2).mono ?_; rintro e w15 ⟨⟨gi, capi, rfl, i0, i1, i2⟩, F15⟩
    replace A2 := A2.kept F15 (by simp) (by simp)
    replace oc := oc.up F15
    replace o8 := o8.up F15
    replace o5 := o5.up F15
    replace ob2 := ob2.up F15
    replace oy := oy.up F15
    replace EG := EG.trans F15
    clear F15
    obtain ⟨c0, c1, c2, c3⟩ := Pl.cells4 oc
    go_wp2_with fail
    refine (chunk_at99 p q _ A2).mono ?_; rintro e w16 ⟨rfl, F16⟩
    replace A2 := A2.kept F16 (by simp) (by simp)
    replace oc := oc.up F16
    replace o8 := o8.up F16
    replace o5 := o5.up F16
    replace ob2 := ob2.up F16
    replace oy := oy.up F16
    replace i0 := F16.cell i0 (by simp)
    replace i1 := F16.cell i1 (by simp)
    replace i2 := F16.cell i2 (by simp)
    replace EG := EG.trans F16
    clear F16 c0 c1 c2 c3
    obtain ⟨x0, x1, x2, x3, x4, x5, x6, x7, x8⟩ := ch_cells (h := h0) (lv := .slice (some ⟨b, 0, none⟩) 3 3) o8
    obtain ⟨y0, y1, y2, y3, y4, y5, y6, y7, y8⟩ := ch_cells (h := h0) (lv := .slice (some ⟨b2, 0, none⟩) 3 3) oy
    unfold h0 at x0 x1 x2 x3 x4 x5 x6 x7 y0 y1 y2 y3 y4 y5 y6 y7
    simp only at x0 x1 x2 x3 x4 x5 x6 x7 y0 y1 y2 y3 y4 y5 y6 y7
    have lx := o8.lt
    have ly := oy.lt
    go_wp2_with fail
    clear x0 x1 x2 x3 x4 x5 x6 x7 x8 y0 y1 y2 y3 y4 y5 y6 y7 y8 o8 oy
    have F17 := (Fr.refl [] w16).alloc (.cells #[.int .i64 0, .int .i64 0, .int .i64 0, .int .i64 0, .int .i64 0, .int .i64 0, .int .i64 0, .int .i64 0, .slice none 0 0] 26)
    replace A2 := A2.kept F17 (by simp) (by simp)
    replace oc := oc.up F17
    replace o5 := o5.up F17
    replace ob2 := ob2.up F17
    replace i0 := F17.cell i0 (by simp)
    replace i1 := F17.cell i1 (by simp)
    replace i2 := F17.cell i2 (by simp)
    replace EG := EG.trans F17
    clear F17
    generalize (w16.alloc (.cells #[.int .i64 0, .int .i64 0, .int .i64 0, .int .i64 0, .int .i64 0, .int .i64 0, .int .i64 0, .int .i64 0, .slice none 0 0] 26)) = w17 at *
    generalize w16.heap.size = bz at *
    refine (same_at1 b b2 _ o5 ob2).mono ?_; rintro e w18 ⟨rfl, F18⟩
    replace A2 := A2.kept F18 (by simp) (by simp)
    replace oc := oc.up F18
    replace i0 := F18.cell i0 (by simp)
    replace i1 := F18.cell i1 (by simp)
    replace i2 := F18.cell i2 (by simp)
    replace EG := EG.trans F18
    clear F18 o5 ob2
    have ig := itGuard
    have ie := it_eql 9 2 77 9 2 77
    simp only [beq_self_eq_true, Bool.and_self] at ie
    go_wp2_with fail
    clear ig ie i0 i1 i2
    refine (Er.is_same 11 _).mono ?_; rintro e _ ⟨rfl, rfl⟩
    obtain ⟨c0, c1, c2, c3⟩ := Pl.cells4 oc
    go_wp2_with fail
    refine (lay_at20 p q _).mono ?_; rintro e w19 ⟨rfl, F19⟩
    replace A2 := A2.kept F19 (by simp) (by simp)
    replace EG := EG.trans F19
    clear F19 oc c0 c1 c2 c3
    go_wp2_with fail
    refine (Er.is_same 10 _).mono ?_; rintro e _ ⟨rfl, rfl⟩
    go_wp2_with fail
    refine (acc_at p q _ A2).mono ?_; rintro e _ ⟨rfl, rfl⟩
    go_wp2
    go_ret
    exact ⟨rfl, EG⟩
  · obtain rfl := Option.some.inj ho
    go_wp2_with fail
    have F6 := (Fr.refl [] w10).alloc (.cells #[.int .i64 0, .int .i64 0, .int .i64 0, .int .i64 0, .int .i64 0, .int .i64 0, .int .i64 0, .int .i64 0, .slice none 0 0] 26)
    have ox := Ob.new w10 26 (chC ⟨0, 0, 0, 0, 0, 0, 0, 0⟩ (.slice none 0 0))
    unfold chC at ox
    have hE := E.size
    replace E := E.trans F6
    clear F6 ho
    refine nx_normal ⟨E, ?_⟩
    generalize hx : w10.heap.size = bx at *
    refine env_one 4 (by kernel_rfl) rfl rfl (fun w5 F5 => ?_)
    replace ox := ox.up F5
    have hox := ox.lt
    replace E := E.trans F5
    clear F5
    go_wp2_with fail
    refine (chunk_at0 p q _ (A.kept E (by simp) (by simp))).mono ?_; rintro e w4 ⟨b, rfl, hb, ob, F4⟩
    replace E := E.trans F4
    replace ox := ox.up F4
    have hbx : w2.heap.size ≤ bx ∧ w2.heap.size ≤ b ∧ b ≠ bx := by refine ⟨?_, ?_, ?_⟩ <;> omega
    clear F4 hb hox hE hx
    go_wp2_with fail
    refine nx_normal ⟨E, ?_⟩
    refine env_pass [false, false, false, false, false, true, true, true, false, false, false] 2 (n := 101) (listed' := #[true, true, true, true, true, true, true, true, true, false, false]) rfl (by kernel_rfl) (by kernel_rfl) (by kernel_rfl) rfl (by kernel_rfl) (fun _ _ d _ _ h => by cases d <;> exact h) E ?_
    apply Exists.intro
    refine ⟨fun wf Ff => ?_, ?_⟩
    · simp only [sel]
      repeat (go_big_quiet_step (fail))
      exact wpQuiet_nil rfl
    refine env_one 9 (by kernel_rfl) rfl rfl (fun w7 F7 => ?_)
    replace ox := ox.up F7
    replace ob := ob.up F7
    replace E := E.trans F7
    clear F7
    obtain ⟨x0, x1, x2, x3, x4, x5, x6, x7, x8⟩ := ch_cells (h := ⟨0, 0, 0, 0, 0, 0, 0, 0⟩) (lv := .slice none 0 0) ox
    have zx := ox.frozen
    have o8 := (Ob.set (Ob.set (Ob.set (Ob.set (Ob.set (Ob.set (Ob.set (Ob.set (Ob.set ox (i := 0) (.int .i64 15)) (i := 1) (.int .i64 0)) (i := 2) (.int .i64 0)) (i := 3) (.int .i64 0)) (i := 4) (.int .i64 0)) (i := 5) (.int .i64 0)) (i := 6) (.int .i64 0)) (i := 7) (.int .i64 0)) (i := 8) (.slice (some ⟨b, 0, none⟩) 3 3))
    have F8 : Fr [bx] w7 (((((((((w7.setCell ⟨bx, 0, none⟩ (.int .i64 15)).setCell ⟨bx, 1, none⟩ (.int .i64 0)).setCell ⟨bx, 2, none⟩ (.int .i64 0)).setCell ⟨bx, 3, none⟩ (.int .i64 0)).setCell ⟨bx, 4, none⟩ (.int .i64 0)).setCell ⟨bx, 5, none⟩ (.int .i64 0)).setCell ⟨bx, 6, none⟩ (.int .i64 0)).setCell ⟨bx, 7, none⟩ (.int .i64 0)).setCell ⟨bx, 8, none⟩ (.slice (some ⟨b, 0, none⟩) 3 3)) := (Fr.setCell' (Fr.setCell' (Fr.setCell' (Fr.setCell' (Fr.setCell' (Fr.setCell' (Fr.setCell' (Fr.setCell' (Fr.setCell' (Fr.refl [bx] w7) (b := bx) (i := 0) (.int .i64 15) (by simp)) (b := bx) (i := 1) (.int .i64 0) (by simp)) (b := bx) (i := 2) (.int .i64 0) (by simp)) (b := bx) (i := 3) (.int .i64 0) (by simp)) (b := bx) (i := 4) (.int .i64 0) (by simp)) (b := bx) (i := 5) (.int .i64 0) (by simp)) (b := bx) (i := 6) (.int .i64 0) (by simp)) (b := bx) (i := 7) (.int .i64 0) (by simp)) (b := bx) (i := 8) (.slice (some ⟨b, 0, none⟩) 3 3) (by simp))
    rw [sets9] at o8
    go_wp2_with fail
    generalize (((((((((w7.setCell ⟨bx, 0, none⟩ (.int .i64 15)).setCell ⟨bx, 1, none⟩ (.int .i64 0)).setCell ⟨bx, 2, none⟩ (.int .i64 0)).setCell ⟨bx, 3, none⟩ (.int .i64 0)).setCell ⟨bx, 4, none⟩ (.int .i64 0)).setCell ⟨bx, 5, none⟩ (.int .i64 0)).setCell ⟨bx, 6, none⟩ (.int .i64 0)).setCell ⟨bx, 7, none⟩ (.int .i64 0)).setCell ⟨bx, 8, none⟩ (.slice (some ⟨b, 0, none⟩) 3 3)) = w8 at *
    clear x0 x1 x2 x3 x4 x5 x6 x7 x8 zx ox
    replace ob := ob.kept F8 (by simp; omega)
    replace E := E.own F8 (by simp; omega)
    clear F8
    refine nx_normal ⟨E, ?_⟩
    refine env_one 10 (by kernel_rfl) rfl rfl (fun w9 F9 => ?_)
    replace o8 := o8.up F9
    replace ob := ob.up F9
    replace E := E.trans F9
    clear F9
    go_wp2_with fail
    refine nx_normal ⟨E, ?_⟩
    refine env_done (by kernel_rfl) (fun w10 F10 => ?_)
    replace o8 := o8.up F10
    replace ob := ob.up F10
    replace E := E.trans F10
    clear F10
    replace A := A.kept E (by simp) (by simp)
    replace oc := oc.up E
    have EG := G.trans E
    have hpq := A.lt
    have hob := ob.lt
    have ho8 := o8.lt
    clear G
    obtain ⟨x0, x1, x2, x3, x4, x5, x6, x7, x8⟩ := ch_cells (h := h0) (lv := .slice (some ⟨b, 0, none⟩) 3 3) o8
    unfold h0 at x0 x1 x2 x3 x4 x5 x6 x7
    simp only at x0 x1 x2 x3 x4 x5 x6 x7
    have zb := ob.frozen
    have y3 : w10.cell? ⟨b, 3, none⟩ = some (.int .i64 0) := ob.cell (i := 3) rfl
    have y4 : w10.cell? ⟨b, 4, none⟩ = some (.int .i64 0) := ob.cell (i := 4) rfl
    have y5 : w10.cell? ⟨b, 5, none⟩ = some (.int .i64 0) := ob.cell (i := 5) rfl
    obtain ⟨c0, c1, c2, c3⟩ := Pl.cells4 oc
    have n1 : bx ≠ b := fun h => hbx.2.2 h.symm
    have n2 : bc ≠ b := by omega
    go_wp2_with fail
    have F5 : Fr [b] w10 (((w10.setCell ⟨b, 3, none⟩ (.int .i64 5)).setCell ⟨b, 4, none⟩ (.int .i64 9)).setCell ⟨b, 5, none⟩ (.int .i64 77)) := Fr.setCell' (Fr.setCell' (Fr.setCell (b := b) (i := 3) (.int .i64 5) (by simp)) (b := b) (i := 4) (.int .i64 9) (by simp)) (b := b) (i := 5) (.int .i64 77) (by simp)
    have o5 : Ob (((w10.setCell ⟨b, 3, none⟩ (.int .i64 5)).setCell ⟨b, 4, none⟩ (.int .i64 9)).setCell ⟨b, 5, none⟩ (.int .i64 77)) b 29 #[.int .i64 0, .int .i64 0, .int .i64 0, .int .i64 5, .int .i64 9, .int .i64 77, .int .i64 0, .int .i64 0, .int .i64 0] := Ob.set (Ob.set (Ob.set ob (i := 3) (.int .i64 5)) (i := 4) (.int .i64 9)) (i := 5) (.int .i64 77)
    generalize (((w10.setCell ⟨b, 3, none⟩ (.int .i64 5)).setCell ⟨b, 4, none⟩ (.int .i64 9)).setCell ⟨b, 5, none⟩ (.int .i64 77)) = w11 at *
    clear x0 x1 x2 x3 x4 x5 x6 x7 x8 y3 y4 y5 c0 c1 c2 c3 zb ob
    replace A := A.kept F5 (by simp; omega) (by simp; omega)
    replace oc := oc.kept F5 (by simpa using n2)
    replace o8 := o8.kept F5 (by simpa using n1)
    replace EG := EG.own F5 (by simp; omega)
    clear F5
    have nqb : q ≠ b := by omega
    have nqx : q ≠ bx := by omega
    have nqc : q ≠ bc := by omega
    refine (lay_at0 p q b _ A o5 nqb).mono ?_; rintro e w12 ⟨rfl, A2, F12⟩
    replace oc := oc.kept F12 (by simpa using nqc.symm)
    replace o8 := o8.kept F12 (by simpa using nqx.symm)
    replace o5 := o5.kept F12 (by simpa using nqb.symm)
    replace EG := EG.own F12 (by simp; omega)
    clear F12 A hpq
    have hsz := EG.size
    obtain ⟨c0, c1, c2, c3⟩ := Pl.cells4 oc
    obtain ⟨x0, x1, x2, x3, x4, x5, x6, x7, x8⟩ := ch_cells (h := h0) (lv := .slice (some ⟨b, 0, none⟩) 3 3) o8
    unfold h0 at x0 x1 x2 x3 x4 x5 x6 x7
    simp only at x0 x1 x2 x3 x4 x5 x6 x7
    go_wp2_with fail
    refine (chunk_at1 p q _ A2).mono ?_; rintro e w13 ⟨b2, rfl, hb2, ob2, F13⟩
    replace A2 := A2.kept F13 (by simp) (by simp)
    replace oc := oc.up F13
    replace o8 := o8.up F13
    replace o5 := o5.up F13
    replace EG := EG.trans F13
    clear x0 x1 x2 x3 x4 x5 x6 x7 x8 c0 c1 c2 c3 F13
    go_wp2_with fail
    have F14 := (Fr.refl [] w13).alloc (.cells #[.int .i64 15, .int .i64 0, .int .i64 0, .int .i64 0, .int .i64 0, .int .i64 0, .int .i64 0, .int .i64 0, .slice (some ⟨b2, 0, none⟩) 3 3] 26)
    have oy := Ob.new w13 26 (chC h0 (.slice (some ⟨b2, 0, none⟩) 3 3))
    unfold chC h0 at oy
    simp only at oy
    replace A2 := A2.kept F14 (by simp) (by simp)
    replace oc := oc.up F14
    replace o8 := o8.up F14
    replace o5 := o5.up F14
    replace ob2 := ob2.up F14
    replace EG := EG.trans F14
    clear F14
    generalize (w13.alloc (.cells #[.int .i64 15, .int .i64 0, .int .i64 0, .int .i64 0, .int .i64 0, .int .i64 0, .int .i64 0, .int .i64 0, .slice (some ⟨b2, 0, none⟩) 3 3] 26)) = w14 at *
    generalize w13.heap.size = by_ at *
    refine (items_at1 b2 _ ob2).mono ?_; rintro e w15 ⟨⟨gi, capi, rfl, i0, i1, i2⟩, F15⟩
    replace A2 := A2.kept F15 (by simp) (by simp)
    replace oc := oc.up F15
    replace o8 := o8.up F15
    replace o5 := o5.up F15
    replace ob2 := ob2.up F15
    replace oy := oy.up F15
    replace EG := EG.trans F15
    clear F15
    obtain ⟨c0, c1, c2, c3⟩ := Pl.cells4 oc
    go_wp2_with fail
    refine (chunk_at99 p q _ A2).mono ?_; rintro e w16 ⟨rfl, F16⟩
    replace A2 := A2.kept F16 (by simp) (by simp)
    replace oc := oc.up F16
    replace o8 := o8.up F16
    replace o5 := o5.up F16
    replace ob2 := ob2.up F16
    replace oy := oy.up F16
    replace i0 := F16.cell i0 (by simp)
    replace i1 := F16.cell i1 (by simp)
    replace i2 := F16.cell i2 (by simp)
    replace EG := EG.trans F16
    clear F16 c0 c1 c2 c3
    obtain ⟨x0, x1, x2, x3, x4, x5, x6, x7, x8⟩ := ch_cells (h := h0) (lv := .slice (some ⟨b, 0, none⟩) 3 3) o8
    obtain ⟨y0, y1, y2, y3, y4, y5, y6, y7, y8⟩ := ch_cells (h := h0) (lv := .slice (some ⟨b2, 0, none⟩) 3 3) oy
    unfold h0 at x0 x1 x2 x3 x4 x5 x6 x7 y0 y1 y2 y3 y4 y5 y6 y7
    simp only at x0 x1 x2 x3 x4 x5 x6 x7 y0 y1 y2 y3 y4 y5 y6 y7
    have lx := o8.lt
    have ly := oy.lt
    go_wp2_with fail
    clear x0 x1 x2 x3 x4 x5 x6 x7 x8 y0 y1 y2 y3 y4 y5 y6 y7 y8 o8 oy
    have F17 := (Fr.refl [] w16).alloc (.cells #[.int .i64 0, .int .i64 0, .int .i64 0, .int .i64 0, .int .i64 0, .int .i64 0, .int .i64 0, .int .i64 0, .slice none 0 0] 26)
    replace A2 := A2.kept F17 (by simp) (by simp)
    replace oc := oc.up F17
    replace o5 := o5.up F17
    replace ob2 := ob2.up F17
    replace i0 := F17.cell i0 (by simp)
    replace i1 := F17.cell i1 (by simp)
    replace i2 := F17.cell i2 (by simp)
    replace EG := EG.trans F17
    clear F17
    generalize (w16.alloc (.cells #[.int .i64 0, .int .i64 0, .int .i64 0, .int .i64 0, .int .i64 0, .int .i64 0, .int .i64 0, .int .i64 0, .slice none 0 0] 26)) = w17 at *
    generalize w16.heap.size = bz at *
    refine (same_at1 b b2 _ o5 ob2).mono ?_; rintro e w18 ⟨rfl, F18⟩
    replace A2 := A2.kept F18 (by simp) (by simp)
    replace oc := oc.up F18
    replace i0 := F18.cell i0 (by simp)
    replace i1 := F18.cell i1 (by simp)
    replace i2 := F18.cell i2 (by simp)
    replace EG := EG.trans F18
    clear F18 o5 ob2
    have ig := itGuard
    have ie := it_eql 9 2 77 9 2 77
    simp only [beq_self_eq_true, Bool.and_self] at ie
    go_wp2_with fail
    clear ig ie i0 i1 i2
    refine (Er.is_same 11 _).mono ?_; rintro e _ ⟨rfl, rfl⟩
    obtain ⟨c0, c1, c2, c3⟩ := Pl.cells4 oc
    go_wp2_with fail
    refine (lay_at20 p q _).mono ?_; rintro e w19 ⟨rfl, F19⟩
    replace A2 := A2.kept F19 (by simp) (by simp)
    replace EG := EG.trans F19
    clear F19 oc c0 c1 c2 c3
    go_wp2_with fail
    refine (Er.is_same 10 _).mono ?_; rintro e _ ⟨rfl, rfl⟩
    go_wp2_with fail
    refine (acc_at p q _ A2).mono ?_; rintro e _ ⟨rfl, rfl⟩
    go_wp2
    go_ret
    exact ⟨rfl, EG⟩
end Go.Proofs.Ytkdnppehlnmlgaa.Vw
