/- Layer 7's known case. -/
import Derived.Test.YtkdnhaglfbkhfaaChain8
namespace Go.Proofs.Ytkdnhaglfbkhfaa.Ch
open Go.RowKit Go.Proofs.Ytkdnhaglfbkhfaa.Ar Go.Proofs.Ytkdnhaglfbkhfaa.Mx Go.Proofs.Ytkdnhaglfbkhfaa.Vw
set_option linter.unusedVariables false
set_option linter.unusedSimpArgs false
set_option maxRecDepth 100000
def s0 : St := Pl.begun 1 3 100
def s1 : St := ((s0.poke 22 3).poke 23 4).poke 24 6291462
def s2 : St := s1.poke 15 5
theorem len1 : s1.l.length = 100 := by decide +kernel
theorem len2 : s2.l.length = 100 := by decide +kernel
theorem all1 : allF (peek s1.l) s1.l.length 3 1 = [15] := by decide +kernel
theorem its1 : itsOf (chunksF (peek s1.l) s1.l.length 3 1) = [⟨4, 0, 6291462⟩] := by decide +kernel
theorem now1 : nowL (itsOf (chunksF (peek s1.l) s1.l.length 3 1)) = [(4, 5)] := by rw [its1]; decide +kernel
theorem is1 : isL (chunksF (peek s1.l) s1.l.length 3 1) = true := by decide +kernel
theorem is2 : isL (chunksF (peek s2.l) s2.l.length 3 1) = false := by decide +kernel
theorem of4 : ofL (chunksF (peek s2.l) s2.l.length 3 1) 4 = 0 := by decide +kernel
theorem of5 : ofL (chunksF (peek s2.l) s2.l.length 3 1) 5 = 15 := by decide +kernel
theorem acc2 : s2.n = 0 := by decide +kernel
theorem all_1 (p q : Nat) (w : World) (A : Ar w p q s1) : Calls Try.prog 12 #[.agg #[.int .i64 1, .int .i64 3, .int .i64 100, .int .i64 1000], .pointer (some ⟨p, 0, none⟩)] w fun e w' => (∃ u, e = .returned u ∧ w'.ownsRow w.heap.size 3 1 u 1 [.int .i64 15]) ∧ Fr [] w w' := by
  have := all_any 1 100 1000 3 p q s1 w (by decide) (by decide) (by decide) (by decide) (by rw [len1]; decide) (by rw [len1]; decide) A
  rw [all1] at this; exact this
theorem now_1 (p q : Nat) (w : World) (A : Ar w p q s1) : Calls Try.prog 14 #[.agg #[.int .i64 1, .int .i64 3, .int .i64 100, .int .i64 1000], .pointer (some ⟨p, 0, none⟩)] w fun e w' => (∃ u, e = .returned u ∧ w'.ownsRow w.heap.size 43 2 u 1 [.int .i64 4, .int .i64 5]) ∧ Fr [] w w' := by
  have := now_any 1 100 1000 3 p q s1 w (by decide) (by decide) (by decide) (by decide) (by rw [len1]; decide) (by rw [len1]; decide) A (by rw [its1]; intro it h; simp at h; subst h; rfl)
  rw [now1] at this; exact this
theorem is_1 (p q : Nat) (w : World) (A : Ar w p q s1) : Calls Try.prog 13 #[.agg #[.int .i64 1, .int .i64 3, .int .i64 100, .int .i64 1000], .pointer (some ⟨p, 0, none⟩)] w fun e w' => e = .returned (.bool true) ∧ Fr [] w w' := by
  have := is_any 1 100 1000 3 p q s1 w (by decide) (by decide) (by decide) (by decide) (by rw [len1]; decide) (by rw [len1]; decide) A
  rw [is1] at this; exact this
theorem is_2 (p q : Nat) (w : World) (A : Ar w p q s2) : Calls Try.prog 13 #[.agg #[.int .i64 1, .int .i64 3, .int .i64 100, .int .i64 1000], .pointer (some ⟨p, 0, none⟩)] w fun e w' => e = .returned (.bool false) ∧ Fr [] w w' := by
  have := is_any 1 100 1000 3 p q s2 w (by decide) (by decide) (by decide) (by decide) (by rw [len2]; decide) (by rw [len2]; decide) A
  rw [is2] at this; exact this
theorem of_4 (p q : Nat) (w : World) (A : Ar w p q s2) : Calls Try.prog 15 #[.agg #[.int .i64 1, .int .i64 3, .int .i64 100, .int .i64 1000], .pointer (some ⟨p, 0, none⟩), .int .i64 4] w fun e w' => e = .returned (.int .i64 0) ∧ Fr [] w w' := by
  have := of_any 1 100 1000 4 3 p q s2 w (by decide) (by decide) (by decide) (by decide) (by rw [len2]; decide) (by rw [len2]; decide) A
  rw [of4] at this; exact this
theorem of_5 (p q : Nat) (w : World) (A : Ar w p q s2) : Calls Try.prog 15 #[.agg #[.int .i64 1, .int .i64 3, .int .i64 100, .int .i64 1000], .pointer (some ⟨p, 0, none⟩), .int .i64 5] w fun e w' => e = .returned (.int .i64 15) ∧ Fr [] w w' := by
  have := of_any 1 100 1000 5 3 p q s2 w (by decide) (by decide) (by decide) (by decide) (by rw [len2]; decide) (by rw [len2]; decide) A
  rw [of5] at this; exact this
theorem acc_2 (p q : Nat) (w : World) (A : Ar w p q s2) : Calls Try.prog 17 #[.pointer (some ⟨p, 0, none⟩)] w fun e w' => e = .returned (.int .i64 0) ∧ w = w' := by
  have := accesses_any w p q s2 A
  rw [acc2] at this; exact this
theorem prGuard : Try.prog.eqGuardType Try.prog.depth 43 = false := by kernel_rfl
theorem pr_eql (W : World) : (binOp .eql 43 (.agg #[.int .i64 4, .int .i64 5]) (.agg #[.int .i64 4, .int .i64 5])).run Try.prog W = .ok (.bool true) W := by
  have u3 := Try.underlying3
  have a3 : (isAgg 3).run Try.prog W = .ok false W := by kernel_rfl
  have hS : Try.prog.underlying 43 = some (.struct (Try.prog.fieldsOf 43)) := by kernel_rfl
  have hp : Try.prog.stoodInHeld 43 = false := by kernel_rfl
  rw [run_eql_struct, show (10000 : Nat) = 9999 + 1 from rfl, run_equalIn_agg W 9999 43 _ _ hS hp]
  simp only [Program.fieldsOf, Try.underlying43]
  go_simp
set_option maxHeartbeats 3200000 in
theorem known_true (w : World) : Calls Try.prog 4 #[] w fun e w' => e = .returned (.bool true) ∧ Fr [] w w' := by
  have isE := Er.isE
  go_enter Try.func4, Try.ntmps4
  go_wp2_with fail
  refine (Pl.conf_any 1 3 100 _).mono ?_; rintro e w1 ⟨rfl, F1⟩
  have G := F1.alloc (.cells #[.int .i64 1, .int .i64 3, .int .i64 100, .int .i64 1000] 24)
  have oc := Ob.new w1 24 #[.int .i64 1, .int .i64 3, .int .i64 100, .int .i64 1000]
  obtain ⟨c0, c1, c2, c3⟩ := Pl.cells4 oc
  have hcw := oc.lt
  have hw1 := F1.size
  clear F1
  go_wp2_with fail
  refine (Pl.make_yes 1 3 100 1000 (by decide) _).mono ?_; rintro e w2 ⟨p, q, rfl, hp, hq, A, F2⟩
  rw [sizeA] at hp hq
  replace oc := oc.up F2
  have hcw2 := oc.lt
  have hA2 := A.lt
  replace G := G.trans F2
  have hG := G.size
  have A : Ar w2 p q s0 := A
  clear F2 c0 c1 c2 c3
  generalize hbc : w1.heap.size = bc at *
  have nqc : bc ≠ q := by omega
  have npc : bc ≠ p := by omega
  have hwq : w.heap.size ≤ q := by omega
  obtain ⟨c0, c1, c2, c3⟩ := Pl.cells4 oc
  go_wp2_with fail
  refine (Pl.first_any 1 3 100 1000 (by decide) (by decide) _).mono ?_; rintro e w3 ⟨rfl, F3⟩
  replace A := A.kept F3 (by simp) (by simp)
  replace oc := oc.up F3
  replace G := G.trans F3
  clear F3 c0 c1 c2 c3 hG hA2 hcw2 hcw
  rw [show (3 + 1 + 4 + 7 : Int) = 15 by decide]
  go_wp2_with fail
  refine (Pl.state_any 15 0 (by decide) (by decide) (by decide) (by decide) _).mono ?_; rintro e _ ⟨rfl, rfl⟩
  go_wp2_with fail
  refine (poke_any _ p q _ _ _ A).mono ?_; rintro e w4 ⟨rfl, A2, F2⟩
  clear A
  have A : Ar w4 p q (s0.poke 22 3) := A2
  clear A2
  replace oc := oc.kept F2 (by simpa using nqc)
  replace G := G.own F2 (by simpa using hwq)
  clear F2
  go_wp2_with fail
  refine (Pl.state_any 15 0 (by decide) (by decide) (by decide) (by decide) _).mono ?_; rintro e _ ⟨rfl, rfl⟩
  go_wp2_with fail
  refine (poke_any _ p q _ _ _ A).mono ?_; rintro e w5 ⟨rfl, A2, F2⟩
  clear A
  have A : Ar w5 p q ((s0.poke 22 3).poke 23 4) := A2
  clear A2
  replace oc := oc.kept F2 (by simpa using nqc)
  replace G := G.own F2 (by simpa using hwq)
  clear F2
  go_wp2_with fail
  refine (Pl.state_any 15 0 (by decide) (by decide) (by decide) (by decide) _).mono ?_; rintro e _ ⟨rfl, rfl⟩
  go_wp2_with fail
  refine (poke_any _ p q _ _ _ A).mono ?_; rintro e w6 ⟨rfl, A2, F2⟩
  clear A
  have A : Ar w6 p q (s1) := A2
  clear A2
  replace oc := oc.kept F2 (by simpa using nqc)
  replace G := G.own F2 (by simpa using hwq)
  clear F2
  obtain ⟨c0, c1, c2, c3⟩ := Pl.cells4 oc
  go_wp2_with fail
  clear c0 c1 c2 c3
  have hq6 := A.lt
  refine wp_region_env (by kernel_rfl) [] (fun w7 F7 => ?_)
  refine env_pass [true, true, false, true, true, false, false, false] 4 (n := 98) (listed' := #[true, true, false, true, true, false, false, false]) rfl (by kernel_rfl) (by kernel_rfl) (by kernel_rfl) rfl (by kernel_rfl) (fun _ _ d _ _ h => by cases d <;> exact h) (F7.mono (by simp)) ?_
  apply Exists.intro
  refine ⟨fun wf Ff => ?_, ?_⟩
  · obtain ⟨c0, c1, c2, c3⟩ := Pl.cells4 (oc.up Ff)
    have k0 := In.cell c0
    have k1 := In.cell c1
    have k2 := In.cell c2
    have k3 := In.cell c3
    clear c0 c1 c2 c3
    simp only [sel]
    repeat (go_big_quiet_step (fail))
    exact wpQuiet_nil rfl
  refine env_one 2 (by kernel_rfl) rfl rfl (fun w8 F8 => ?_)
  have E := F7.trans F8
  clear F7 F8
  go_wp2_with fail
  refine (all_1 p q _ (A.kept E (by simp) (by simp))).mono ?_; rintro e w9 ⟨⟨u, rfl, hu⟩, F9⟩
  replace hu := row_more hu E.size
  replace E := E.trans F9
  clear F9
  go_wp2_with fail
  refine nx_normal ⟨E, ?_⟩
  refine env_one 5 (by kernel_rfl) rfl rfl (fun w10 F10 => ?_)
  replace E := E.trans F10
  replace hu := row_keeps hu F10
  clear F10
  go_wp2_with fail
  refine (now_1 p q _ (A.kept E (by simp) (by simp))).mono ?_; rintro e w11 ⟨⟨v, rfl, hv⟩, F9⟩
  replace hv := row_more hv E.size
  replace E := E.trans F9
  replace hu := row_keeps hu F9
  clear F9
  go_wp2_with fail
  refine nx_normal ⟨E, ?_⟩
  refine env_one 6 (by kernel_rfl) rfl rfl (fun w12 F12 => ?_)
  replace E := E.trans F12
  replace hu := row_keeps hu F12
  replace hv := row_keeps hv F12
  clear F12
  go_wp2_with fail
  refine nx_normal ⟨E, ?_⟩
  refine env_one 7 (by kernel_rfl) rfl rfl (fun w12 F12 => ?_)
  replace E := E.trans F12
  replace hu := row_keeps hu F12
  replace hv := row_keeps hv F12
  clear F12
  go_wp2_with fail
  refine nx_normal ⟨E, ?_⟩
  refine env_done (by kernel_rfl) (fun w13 F13 => ?_)
  replace E := E.trans F13
  replace hu := row_keeps hu F13
  replace hv := row_keeps hv F13
  clear F13
  replace A := A.kept E (by simp) (by simp)
  replace oc := oc.up E
  replace G := G.trans E
  clear E
  obtain ⟨c0, c1, c2, c3⟩ := Pl.cells4 oc
  go_wp2_with fail
  refine (is_1 p q _ A).mono ?_; rintro e w14 ⟨rfl, F14⟩
  replace A := A.kept F14 (by simp) (by simp)
  replace oc := oc.up F14
  replace G := G.trans F14
  replace hu := row_keeps hu F14
  replace hv := row_keeps hv F14
  clear F14 c0 c1 c2 c3
  have nqu : q ∉ u.ownBlock.toList := by intro hi; have := row_base hu q hi; omega
  have nqv : q ∉ v.ownBlock.toList := by intro hi; have := row_base hv q hi; omega
  go_wp2_with fail
  refine (poke_any _ p q _ _ _ A).mono ?_; rintro e w15 ⟨rfl, A2, F15⟩
  clear A
  have A : Ar w15 p q s2 := A2
  clear A2
  replace oc := oc.kept F15 (by simpa using nqc)
  replace G := G.own F15 (by simpa using hwq)
  replace hu := row_fr hu F15 (by intro g hg hi; simp at hi; subst hi; exact nqu (by rw [hg]; simp))
  replace hv := row_fr hv F15 (by intro g hg hi; simp at hi; subst hi; exact nqv (by rw [hg]; simp))
  clear F15 nqu nqv
  obtain ⟨au, cu, rfl, -, hcu⟩ := row_cell hu
  obtain ⟨av, cv, rfl, -, hcv⟩ := row_cell hv
  obtain ⟨gu, rfl, -, hcu⟩ := hcu.resolve_left (by decide)
  obtain ⟨gv, rfl, -, hcv⟩ := hcv.resolve_left (by decide)
  have e0 := hcu 0 _ rfl
  have e1 := hcv 0 _ rfl
  have e2 := hcv 1 _ rfl
  clear hcu hcv hu hv
  have hpe := pr_eql
  have hpg := prGuard
  obtain ⟨c0, c1, c2, c3⟩ := Pl.cells4 oc
  go_wp2_with fail
  refine (is_2 p q _ A).mono ?_; rintro e w16 ⟨rfl, F16⟩
  replace A := A.kept F16 (by simp) (by simp)
  replace oc := oc.up F16
  replace G := G.trans F16
  replace e0 := F16.cell e0 (by simp)
  replace e1 := F16.cell e1 (by simp)
  replace e2 := F16.cell e2 (by simp)
  clear F16 c0 c1 c2 c3
  obtain ⟨c0, c1, c2, c3⟩ := Pl.cells4 oc
  go_wp2_with fail
  refine (of_4 p q _ A).mono ?_; rintro e w17 ⟨rfl, F16⟩
  replace A := A.kept F16 (by simp) (by simp)
  replace oc := oc.up F16
  replace G := G.trans F16
  replace e0 := F16.cell e0 (by simp)
  replace e1 := F16.cell e1 (by simp)
  replace e2 := F16.cell e2 (by simp)
  clear F16 c0 c1 c2 c3
  obtain ⟨c0, c1, c2, c3⟩ := Pl.cells4 oc
  go_wp2_with fail
  refine (of_5 p q _ A).mono ?_; rintro e w18 ⟨rfl, F16⟩
  replace A := A.kept F16 (by simp) (by simp)
  replace oc := oc.up F16
  replace G := G.trans F16
  replace e0 := F16.cell e0 (by simp)
  replace e1 := F16.cell e1 (by simp)
  replace e2 := F16.cell e2 (by simp)
  clear F16 c0 c1 c2 c3
  go_wp2_with fail
  refine (acc_2 p q _ A).mono ?_; rintro e _ ⟨rfl, rfl⟩
  go_wp2_with fail
  go_ret
  exact ⟨rfl, G⟩
end Go.Proofs.Ytkdnhaglfbkhfaa.Ch
