/- The reference's places: what each function answers: the same as package place's. -/
import Derived.Test.YtafmcilonpkpbaaDoorFirst
import Derived.Test.YtafmcilonpkpbaaDoorRar
namespace Go.Proofs.YtafmcilonpkpbaaDoor.Ref
open Go.RowKit Go.Proofs.YtafmcilonpkpbaaDoor.Ar Go.Proofs.YtafmcilonpkpbaaDoor.Pl
theorem size_any (t c wd v : Int) (h1 : 1 ≤ c) (h2 : c ≤ 16) (w : World) :
    Calls Tryd.prog 12 #[.agg #[.int .i64 t, .int .i64 c, .int .i64 wd, .int .i64 v]] w fun e w' => e = .returned (.int .i64 (7 + 3 * c)) ∧ Fr [] w w' := by
  go_enter Tryd.func12, Tryd.ntmps12
  go_wp2
  go_ret
  exact ⟨rfl, (Fr.refl _ _).alloc _⟩
theorem psa_any (t : Int) (h1 : 0 ≤ t) (h2 : t ≤ 8) (w : World) :
    Calls Tryd.prog 14 #[.int .i64 t] w fun e w' => e = .returned (.int .i64 (3 + t)) ∧ w = w' := by
  go_enter Tryd.func14, Tryd.ntmps14
  go_wp2
  go_ret
  exact ⟨rfl, rfl⟩
theorem head_any (t c wd v : Int) (h1 : 1 ≤ t) (h2 : t ≤ 8) (w : World) :
    Calls Tryd.prog 18 #[.agg #[.int .i64 t, .int .i64 c, .int .i64 wd, .int .i64 v]] w fun e w' => e = .returned (.int .i64 (3 + t + 4)) ∧ Fr [] w w' := by
  go_enter Tryd.func18, Tryd.ntmps18
  go_wp2
  go_ret
  exact ⟨rfl, (Fr.refl _ _).alloc _⟩
theorem hint_any (t c wd v k : Int) (h1 : 1 ≤ t) (h2 : t ≤ 8) (h3 : 0 ≤ k) (h4 : k ≤ 63) (w : World) :
    Calls Tryd.prog 16 #[.agg #[.int .i64 t, .int .i64 c, .int .i64 wd, .int .i64 v], .int .i64 k] w fun e w' => e = .returned (.int .i64 (3 + t + k / 16)) ∧ Fr [] w w' := by
  go_enter Tryd.func16, Tryd.ntmps16
  go_wp2
  go_ret
  exact ⟨rfl, (Fr.refl _ _).alloc _⟩
theorem first_any (t c wd v : Int) (h1 : 1 ≤ t) (h2 : t ≤ 8) (w : World) :
    Calls Tryd.prog 20 #[.agg #[.int .i64 t, .int .i64 c, .int .i64 wd, .int .i64 v]] w fun e w' => e = .returned (.int .i64 (3 + t + 4 + 7)) ∧ Fr [] w w' := by
  go_enter Tryd.func20, Tryd.ntmps20
  go_wp2_with fail
  refine (head_any t c wd v h1 h2 _).mono ?_; rintro e w1 ⟨rfl, F1⟩
  have G := ((Fr.refl [] w).alloc _).trans F1
  clear F1
  go_wp2
  go_ret
  exact ⟨rfl, G⟩
theorem top_any (t c wd v : Int) (h1 : 1 ≤ t) (h2 : t ≤ 8) (h3 : 1 ≤ c) (h4 : c ≤ 16) (w : World) :
    Calls Tryd.prog 22 #[.agg #[.int .i64 t, .int .i64 c, .int .i64 wd, .int .i64 v]] w fun e w' => e = .returned (.int .i64 (21 + t + 3 * c)) ∧ Fr [] w w' := by
  go_enter Tryd.func22, Tryd.ntmps22
  go_wp2_with fail
  obtain ⟨c0, c1, c2, c3⟩ := cells4 (Go.heap_alloc_new w (.cells #[.int .i64 t, .int .i64 c, .int .i64 wd, .int .i64 v] 23))
  have k0 := In.cell c0
  have k1 := In.cell c1
  have k2 := In.cell c2
  have k3 := In.cell c3
  clear c0 c1 c2 c3
  refine wp_region_in (by kernel_rfl) (by kernel_rfl) ?_
  repeat (go_big_quiet_step ((first | (go_at_call 20; exact Calls.in_ (first_any _ _ _ _ h1 h2 _)) | (go_at_call 12; exact Calls.in_ (size_any _ _ _ _ h3 h4 _)))))
  refine wpQuiet_nil ?_
  intro w1 F1
  go_wp2
  go_ret
  exact ⟨ret_eq (by omega), ((Fr.refl [] w).alloc _).trans F1⟩
theorem state_any (a i : Int) (h1 : 0 ≤ a) (h2 : a ≤ 1000000) (h3 : 0 ≤ i) (h4 : i ≤ 1000) (w : World) :
    Calls Tryd.prog 24 #[.int .i64 a, .int .i64 i] w fun e w' => e = .returned (.int .i64 (a + 7 + 3 * i)) ∧ w = w' := by
  go_enter Tryd.func24, Tryd.ntmps24
  go_wp2
  go_ret
  exact ⟨rfl, rfl⟩
set_option maxHeartbeats 1600000 in
theorem isConf_form (t c wd v : Int) (h : t < 1 ∨ 8 < t ∨ c < t + 2 ∨ 16 < c ∨ v < 1 ∨ 1048576 < v ∨ wd < 1 ∨ 20000 < wd) (w : World) :
    Calls Tryd.prog 7 #[.agg #[.int .i64 t, .int .i64 c, .int .i64 wd, .int .i64 v]] w fun e w' => e = .returned (.int .i64 10) ∧ Fr [] w w' := by
  by_cases a1 : t < 1
  · clear h
    go_enter Tryd.func7, Tryd.ntmps7
    go_wp2
    go_ret
    exact ⟨rfl, (Fr.refl _ _).alloc _⟩
  by_cases a2 : 8 < t
  · clear h
    have b1 : decide (t < 1) = false := by simpa using a1
    clear a1
    go_enter Tryd.func7, Tryd.ntmps7
    go_wp2
    go_ret
    exact ⟨rfl, (Fr.refl _ _).alloc _⟩
  have b1 : decide (t < 1) = false := by simpa using a1
  have b2 : decide (8 < t) = false := by simpa using a2
  have t1 : 1 ≤ t := by omega
  have t2 : t ≤ 8 := by omega
  clear a1 a2
  by_cases a3 : c < t + 2
  · clear h
    go_enter Tryd.func7, Tryd.ntmps7
    go_wp2
    go_ret
    exact ⟨rfl, (Fr.refl _ _).alloc _⟩
  have b3 : decide (c < t + 2) = false := by simpa using a3
  clear a3
  by_cases a4 : 16 < c
  · clear h
    go_enter Tryd.func7, Tryd.ntmps7
    go_wp2
    go_ret
    exact ⟨rfl, (Fr.refl _ _).alloc _⟩
  have b4 : decide (16 < c) = false := by simpa using a4
  clear a4
  by_cases a5 : v < 1
  · clear h
    go_enter Tryd.func7, Tryd.ntmps7
    go_wp2
    go_ret
    exact ⟨rfl, (Fr.refl _ _).alloc _⟩
  have b5 : decide (v < 1) = false := by simpa using a5
  clear a5
  by_cases a6 : 1048576 < v
  · clear h
    go_enter Tryd.func7, Tryd.ntmps7
    go_wp2
    go_ret
    exact ⟨rfl, (Fr.refl _ _).alloc _⟩
  have b6 : decide (1048576 < v) = false := by simpa using a6
  clear a6
  by_cases a7 : wd < 1
  · clear h
    go_enter Tryd.func7, Tryd.ntmps7
    go_wp2
    go_ret
    exact ⟨rfl, (Fr.refl _ _).alloc _⟩
  have b7 : decide (wd < 1) = false := by simpa using a7
  have a8 : 20000 < wd := by simp at b3 b4 b5 b6 b7; omega
  clear a7 h
  go_enter Tryd.func7, Tryd.ntmps7
  go_wp2
  go_ret
  exact ⟨rfl, (Fr.refl _ _).alloc _⟩
set_option maxHeartbeats 1600000 in
theorem isConf_well (t c wd v : Int) (h : form t c wd v = true) (w : World) :
    Calls Tryd.prog 7 #[.agg #[.int .i64 t, .int .i64 c, .int .i64 wd, .int .i64 v]] w fun e w' => e = .returned (.int .i64 (if 21 + t + 3 * c ≤ wd then 0 else 14)) ∧ Fr [] w w' := by
  obtain ⟨t1, t2, c1, c2, v1, v2, w1, w2⟩ := form_iff.1 h
  have TP := Lib.hid (top_any t c wd v t1 t2 (by omega) c2)
  have b1 : decide (t < 1) = false := by simp; omega
  have b2 : decide (8 < t) = false := by simp; omega
  have b3 : decide (c < t + 2) = false := by simp; omega
  have b4 : decide (16 < c) = false := by simp; omega
  have b5 : decide (v < 1) = false := by simp; omega
  have b6 : decide (1048576 < v) = false := by simp; omega
  have b7 : decide (wd < 1) = false := by simp; omega
  have b8 : decide (20000 < wd) = false := by simp; omega
  clear h c1 c2 v1 v2 w1 w2
  by_cases hf : 21 + t + 3 * c ≤ wd
  all_goals
    first | rw [if_pos hf] | rw [if_neg hf]
    go_enter Tryd.func7, Tryd.ntmps7
    go_wp2_with fail
    obtain ⟨c0, c1, c2, c3⟩ := cells4 (Go.heap_alloc_new w (.cells #[.int .i64 t, .int .i64 c, .int .i64 wd, .int .i64 v] 23))
    have k0 := In.cell c0
    have k1 := In.cell c1
    have k2 := In.cell c2
    have k3 := In.cell c3
    clear c0 c1 c2 c3
    refine wp_region_in (by kernel_rfl) (by kernel_rfl) ?_
    repeat (go_big_quiet_step ((go_at_call 22; exact Calls.in_ (TP.out _))))
    refine wpQuiet_nil ?_
    intro w1 F1
    have G := ((Fr.refl [] w).alloc _).trans F1
    clear F1
    go_wp2
    go_ret
    exact ⟨rfl, G⟩
theorem isConf_any (t c wd v : Int) (w : World) :
    Calls Tryd.prog 7 #[.agg #[.int .i64 t, .int .i64 c, .int .i64 wd, .int .i64 v]] w fun e w' => e = .returned (.int .i64 (code t c wd v)) ∧ Fr [] w w' := by
  cases h : form t c wd v
  · have hn : ¬ form t c wd v = true := by simp [h]
    rw [form_iff] at hn
    rw [code, if_neg (by simp [h])]
    exact isConf_form t c wd v (by omega) w
  · rw [code, if_pos h]; exact isConf_well t c wd v h w
theorem isConf_of {n : Int} (t c wd v : Int) (h : code t c wd v = n) (w : World) :
    Calls Tryd.prog 7 #[.agg #[.int .i64 t, .int .i64 c, .int .i64 wd, .int .i64 v]] w fun e w' => e = .returned (.int .i64 n) ∧ Fr [] w w' := h ▸ isConf_any t c wd v w
theorem held_at (k : Int) (h0 : 0 ≤ k) (h1 : k ≤ 1000000) (w : World) :
    Calls Tryd.prog 47 #[.int .i64 k, .int .i64 0, .int .i64 1073741824] w fun e w' => e = .returned (.int .i64 k) ∧ w = w' := by
  go_enter Tryd.func47, Tryd.ntmps47
  go_wp2
  all_goals
    go_ret
    exact ⟨ret_eq (by omega), rfl⟩
theorem next_any (k : Int) (h0 : 0 ≤ k) (h1 : k ≤ 1000000) (w : World) :
    Calls Tryd.prog 38 #[.int .i64 k, .bool false] w fun e w' => e = .returned (.int .i64 (2 * k)) ∧ w = w' := by
  go_enter Tryd.func38, Tryd.ntmps38
  go_wp2_with fail
  refine (held_at k h0 h1 _).mono ?_; rintro e _ ⟨rfl, rfl⟩
  go_wp2
  go_ret
  exact ⟨ret_eq (by omega), rfl⟩
set_option maxHeartbeats 1600000 in
theorem make_any (t c wd v : Int) (h : form t c wd v = true) (hw : 21 + t + 3 * c ≤ wd) (w : World) :
    Calls Tryd.prog 10 #[.agg #[.int .i64 t, .int .i64 c, .int .i64 wd, .int .i64 v]] w (RMade w (Pl.begun t c wd)) := by
  obtain ⟨t1, t2, c1, c2, v1, v2, w1, w2⟩ := form_iff.1 h
  obtain ⟨n, rfl⟩ := Int.eq_ofNat_of_zero_le (show 0 ≤ wd by omega)
  have hz := Go.heap_alloc_new w (.cells #[.int .i64 t, .int .i64 c, .int .i64 n, .int .i64 v] 23)
  clear h v1 v2
  go_enter Tryd.func10, Tryd.ntmps10
  go_wp2_with fail
  refine (Ref.new_at n n (by omega) (by omega) (by omega) _).mono ?_; rintro e w3 ⟨p, q, rfl, hp, hq, R, F⟩
  obtain ⟨k0, k1, k2, k3⟩ := cells4 (F.heap hz (by simp))
  have G := ((Fr.refl [] w).alloc (.cells #[.int .i64 t, .int .i64 c, .int .i64 n, .int .i64 v] 23)).trans F
  have hp' : w.heap.size ≤ p := Nat.le_of_lt (Nat.lt_of_succ_le (by simpa using hp))
  have hq' : w.heap.size ≤ q := Nat.le_of_lt (Nat.lt_of_succ_le (by simpa using hq))
  have hbp : w.heap.size ≠ q := by simp at hq; omega
  clear F hz hp hq
  go_wp2_with fail
  refine (top_any t c n v t1 t2 (by omega) c2 _).mono ?_; rintro e w4 ⟨rfl, F⟩
  have k0 := F.cell k0 (by simp)
  have k1 := F.cell k1 (by simp)
  have k2 := F.cell k2 (by simp)
  have k3 := F.cell k3 (by simp)
  have R := R.kept F (by simp) (by simp)
  have G := G.trans F
  clear F
  go_wp2_with fail
  refine (Ref.poke_any _ p q _ 2 (21 + t + 3 * c) R).mono ?_; rintro e w5 ⟨rfl, R, F⟩
  have k0 := F.cell k0 (by simpa using hbp)
  have k1 := F.cell k1 (by simpa using hbp)
  have k2 := F.cell k2 (by simpa using hbp)
  have k3 := F.cell k3 (by simpa using hbp)
  have G := G.own F (by simpa using hq')
  clear F
  go_wp2_with fail
  refine (head_any t c n v t1 t2 _).mono ?_; rintro e w6 ⟨rfl, F⟩
  have k0 := F.cell k0 (by simp)
  have k1 := F.cell k1 (by simp)
  have k2 := F.cell k2 (by simp)
  have k3 := F.cell k3 (by simp)
  have R := R.kept F (by simp) (by simp)
  have G := G.trans F
  clear F
  go_wp2_with fail
  refine (Ref.poke_any _ p q _ (3 + t + 4) (-1) R).mono ?_; rintro e w7 ⟨rfl, R, F⟩
  have k0 := F.cell k0 (by simpa using hbp)
  have k1 := F.cell k1 (by simpa using hbp)
  have k2 := F.cell k2 (by simpa using hbp)
  have k3 := F.cell k3 (by simpa using hbp)
  have G := G.own F (by simpa using hq')
  clear F
  go_wp2_with fail
  refine wp_region_env (by kernel_rfl) [q] (fun wa Fa => ?_)
  refine env_pass [true, true, true, true, true, true, true, false] 1 (n := 25) rfl (by kernel_rfl) (by kernel_rfl) (by kernel_rfl) rfl rfl (fun _ _ d _ _ h => by cases d <;> exact h) (Fa.mono (by simp)) ?_
  apply Exists.intro
  refine ⟨fun wf Ff => ?_, ?_⟩
  · have k0 := In.cell (Ff.cell k0 (by simpa using hbp))
    have k1 := In.cell (Ff.cell k1 (by simpa using hbp))
    have k2 := In.cell (Ff.cell k2 (by simpa using hbp))
    have k3 := In.cell (Ff.cell k3 (by simpa using hbp))
    clear Ff
    simp only [sel]
    repeat (go_big_quiet_step ((first | (go_at_call 18; exact Calls.in_ (head_any _ _ _ _ t1 t2 _)) | (go_at_call 20; exact Calls.in_ (first_any _ _ _ _ t1 t2 _)) | (go_at_call 38; exact Calls.in_same (next_any (3 + t + 4 + 7) (by omega) (by omega) _)))))
    exact wpQuiet_nil rfl
  have R := R.kept Fa (by simp) (by simp)
  have D : Fr [q] _ _ := Fa.mono (by simp)
  have G := G.trans Fa
  refine env_one 7 (by kernel_rfl) rfl rfl (fun wb Fb => ?_)
  have R := R.kept Fb (by simp) (by simp)
  have D := D.then Fb
  have G := G.trans Fb
  clear Fa Fb k0 k1 k2 k3
  go_wp2_with fail
  refine (Ref.poke_any _ p q _ (3 + t + 4 + 2) (2 * (3 + t + 4 + 7)) R).mono ?_; rintro e w8 ⟨rfl, R, F⟩
  have D := D.trans F
  have G := G.own F (by simpa using hq')
  clear F
  go_wp2_with fail
  refine nx_normal ⟨D, ?_⟩
  refine env_done (by kernel_rfl) (fun wc Fc => ?_)
  have R := R.kept Fc (by simp) (by simp)
  have G := G.trans Fc
  clear Fc D
  have E : ((St.fresh n).poke 2 (21 + t + 3 * c)).poke (3 + t + 4) (-1) = ((St.fresh n).poke 2 (21 + t + 3 * c)).poke (7 + t) (-1) := by rw [show 3 + t + 4 = 7 + t by omega]
  rw [E, show 3 + t + 4 + 2 = 9 + t by omega, show 2 * (3 + t + 4 + 7) = 2 * (14 + t) by omega] at R
  go_wp2
  go_ret
  exact ⟨p, q, rfl, hp', hq', R, G⟩
end Go.Proofs.YtafmcilonpkpbaaDoor.Ref
