/- The walk of PlaceTells. -/
import Derived.Test.YtafmcilonpkpbaaDoorKnown3
import Derived.Test.YtafmcilonpkpbaaDoorAsHit
import Derived.Test.YtafmcilonpkpbaaDoorAlike
import Derived.Test.YtafmcilonpkpbaaDoorRefPlace
namespace Go.Proofs.YtafmcilonpkpbaaDoor.Pl
open Go.RowKit Go.Proofs.YtafmcilonpkpbaaDoor.Ar
theorem code_nil (w : World) : Calls Tryd.prog 5 #[.nilIface] w fun e w' => e = .returned (.int .i64 0) ∧ Fr [] w w' := by
  have isE := Er.isE
  go_enter Tryd.func5, Tryd.ntmps5
  go_wp2
  go_ret
  exact ⟨rfl, (Fr.refl _ _).alloc _⟩
theorem code_some (n : Int) (w : World) (h : Er.ErrType w) : Calls Tryd.prog 5 #[.iface 42 (.int .i64 n)] w fun e w' => e = .returned (.int .i64 n) ∧ Fr [] w w' := by
  have isE := Er.isE
  have h1 : Er.ErrType (w.alloc (.cells #[.int .i64 0] 42)) := h.kept ((Fr.refl [] w).alloc _) (by simp)
  go_enter Tryd.func5, Tryd.ntmps5
  go_wp2_with fail
  refine (Er.as_hit n w.heap.size (.int .i64 0) _ h1 (Go.heap_alloc_new w _)).mono ?_; rintro e w1 ⟨rfl, hc, F⟩
  have G := ((Fr.refl [] w).alloc _).own F (by simp)
  clear F h1
  go_wp2
  go_ret
  exact ⟨rfl, G⟩
theorem code_errv (n : Int) (w : World) (h : Er.ErrType w) : Calls Tryd.prog 5 #[errv n] w fun e w' => e = .returned (.int .i64 n) ∧ Fr [] w w' := by
  unfold errv
  split
  · rename_i h0; subst h0; exact code_nil w
  · exact code_some n w h
set_option maxRecDepth 100000 in
set_option maxHeartbeats 1600000 in
theorem tells_true (t c wd v k th a i : Int) (w : World) (h : Er.ErrType w) (hk : 0 ≤ k ∧ k ≤ 255) (hth : 0 ≤ th ∧ th ≤ 255) (ha : 0 ≤ a ∧ a ≤ 255) (hi : 0 ≤ i ∧ i ≤ 255) :
    Calls Tryd.prog 3 #[.agg #[.int .i64 t, .int .i64 c, .int .i64 wd, .int .i64 v], .int .u8 k, .int .u8 th, .int .u8 a, .int .u8 i] w fun e w' => e = .returned (.bool true) ∧ Fr [] w w' := by
  have isE := Er.isE
  obtain ⟨hk0, hk1⟩ := hk
  obtain ⟨ht0, ht1⟩ := hth
  obtain ⟨ha0, ha1⟩ := ha
  obtain ⟨hi0, hi1⟩ := hi
  have hB := Go.heap_alloc_new w (.cells #[.int .i64 t, .int .i64 c, .int .i64 wd, .int .i64 v] 23)
  have G0 := (Fr.refl [] w).alloc (.cells #[.int .i64 t, .int .i64 c, .int .i64 wd, .int .i64 v] 23)
  go_enter Tryd.func3, Tryd.ntmps3
  go_wp2_with fail
  refine (known_true _).mono ?_; rintro e w1 ⟨rfl, F⟩
  have hB := F.heap hB (by simp)
  have G := G0.trans F
  have hlt := World.block_lt_of_cell? w _ h
  clear F G0
  obtain ⟨c0, c1, c2, c3⟩ := cells4 hB
  have q0 := In.cell c0
  have q1 := In.cell c1
  have q2 := In.cell c2
  have q3 := In.cell c3
  have E1 := h.kept G (by simp)
  clear c0 c1 c2 c3
  go_wp2_with fail
  refine wp_region_in (by kernel_rfl) (by kernel_rfl) ?_
  repeat (go_big_quiet_step ((first | (go_at_call 6; exact Calls.in_ (is_any t c wd v _)) | (go_at_call 5; exact Calls.in_ (code_errv (code t c wd v) _ (E1.kept (In.fr _) (by simp)))) | (go_at_call 7; exact Calls.in_ (Ref.isConf_any t c wd v _)))))
  refine wpQuiet_nil ?_
  intro w2 F
  have hB := F.heap hB (by simp)
  have G := G.trans F
  have E1 := E1.kept F (by simp)
  clear F q0 q1 q2 q3
  rcases code_cases t c wd v with hc | hc
  · have HC := Lib.hid hc
    have hf : form t c wd v = true ∧ 21 + t + 3 * c ≤ wd := by
      unfold code at hc; split at hc
      · rename_i h1; split at hc
        · rename_i h2; exact ⟨h1, h2⟩
        · cases hc
      · cases hc
    obtain ⟨t1, t2, d1, d2, _, _, _, _⟩ := form_iff.1 hf.1
    have HW := Lib.hid hf
    have t1' : 1 ≤ t := t1
    have t2' : t ≤ 8 := t2
    have c1' : 1 ≤ c := by omega
    have c2' : c ≤ 16 := d2
    clear hc hf t1 t2 d1 d2
    obtain ⟨c0, c1, c2, c3⟩ := cells4 hB
    go_wp2_with fail
    refine (make_yes t c wd v HC.out _).mono ?_; rintro e w3 ⟨p, q, rfl, hp, hq, A, F⟩
    have hB := F.heap hB (by simp)
    have G := G.trans F
    clear F c0 c1 c2 c3 hp hq
    obtain ⟨c0, c1, c2, c3⟩ := cells4 hB
    have q0 := In.cell c0
    have q1 := In.cell c1
    have q2 := In.cell c2
    have q3 := In.cell c3
    go_wp2_with fail
    refine wp_region_in (by kernel_rfl) (by kernel_rfl) ?_
    repeat (go_big_quiet_step ((first | (go_at_call 5; exact Calls.in_ (code_nil _)) | (go_at_call 7; exact Calls.in_ (Ref.isConf_of t c wd v HC.out _)))))
    refine wpQuiet_nil ?_
    intro w4 F
    have hB := F.heap hB (by simp)
    have G := G.trans F
    have A := A.kept F (by simp) (by simp)
    clear F q0 q1 q2 q3 c0 c1 c2 c3
    obtain ⟨c0, c1, c2, c3⟩ := cells4 hB
    go_wp2_with fail
    refine (Ref.make_any t c wd v HW.out.1 HW.out.2 _).mono ?_; rintro e w5 ⟨p2, q2, rfl, hp2, hq2, R, F⟩
    have hB := F.heap hB (by simp)
    have G := G.trans F
    have A := A.kept F (by simp) (by simp)
    clear F c0 c1 c2 c3 hp2 hq2
    obtain ⟨c0, c1, c2, c3⟩ := cells4 hB
    go_wp2_with fail
    refine (Al.alike_any _ p q p2 q2 _ A R).mono ?_; rintro e w6 ⟨rfl, F⟩
    have hB := F.heap hB (by simp)
    have G := G.trans F
    clear F c0 c1 c2 c3 A R
    have b1 : decide (t < 1) = false := by simp; omega
    have b2 : decide (8 < t) = false := by simp; omega
    have b3 : decide (c < 1) = false := by simp; omega
    have b4 : decide (16 < c) = false := by simp; omega
    obtain ⟨c0, c1, c2, c3⟩ := cells4 hB
    have q0 := In.cell c0
    have q1 := In.cell c1
    have q2 := In.cell c2
    have q3 := In.cell c3
    go_wp2_with fail
    refine wp_region_in (by kernel_rfl) (by kernel_rfl) ?_
    repeat (go_big_quiet_step ((first | (go_at_call 11; exact Calls.in_ (size_any _ _ _ _ c1' c2' _)) | (go_at_call 12; exact Calls.in_ (Ref.size_any _ _ _ _ c1' c2' _)) | (go_at_call 13; exact Calls.in_same (psa_any _ (by omega) (by omega) _)) | (go_at_call 14; exact Calls.in_same (Ref.psa_any _ (by omega) (by omega) _)) | (go_at_call 15; exact Calls.in_ (hint_any _ _ _ _ _ t1' t2' (by omega) (by omega) _)) | (go_at_call 16; exact Calls.in_ (Ref.hint_any _ _ _ _ _ t1' t2' (by omega) (by omega) _)) | (go_at_call 17; exact Calls.in_ (head_any _ _ _ _ t1' t2' _)) | (go_at_call 18; exact Calls.in_ (Ref.head_any _ _ _ _ t1' t2' _)) | (go_at_call 19; exact Calls.in_ (first_any _ _ _ _ t1' t2' _)) | (go_at_call 20; exact Calls.in_ (Ref.first_any _ _ _ _ t1' t2' _)) | (go_at_call 21; exact Calls.in_ (top_any _ _ _ _ t1' t2' c1' c2' _)) | (go_at_call 22; exact Calls.in_ (Ref.top_any _ _ _ _ t1' t2' c1' c2' _)) | (go_at_call 23; exact Calls.in_same (state_any _ _ (by omega) (by omega) (by omega) (by omega) _)) | (go_at_call 24; exact Calls.in_same (Ref.state_any _ _ (by omega) (by omega) (by omega) (by omega) _)))))
    refine wpQuiet_nil ?_
    intro w9 F
    have G := G.trans F
    go_wp2
    go_ret
    exact ⟨rfl, G⟩
  · obtain ⟨n, hn, hc⟩ : ∃ n, (n = 10 ∨ n = 14) ∧ code t c wd v = n := by rcases hc with hc | hc <;> exact ⟨_, by simp, hc⟩
    have HC := Lib.hid hc
    have HN := Lib.hid hn
    clear hc hn
    obtain ⟨c0, c1, c2, c3⟩ := cells4 hB
    go_wp2_with fail
    refine (make_no t c wd v n HN.out HC.out _).mono ?_; rintro e w3 ⟨rfl, F⟩
    have hB := F.heap hB (by simp)
    have G := G.trans F
    have E1 := E1.kept F (by simp)
    clear F c0 c1 c2 c3
    obtain ⟨c0, c1, c2, c3⟩ := cells4 hB
    have q0 := In.cell c0
    have q1 := In.cell c1
    have q2 := In.cell c2
    have q3 := In.cell c3
    go_wp2_with fail
    refine wp_region_in (by kernel_rfl) (by kernel_rfl) ?_
    repeat (go_big_quiet_step ((first | (go_at_call 5; exact Calls.in_ (code_some n _ (E1.kept (In.fr _) (by simp)))) | (go_at_call 7; exact Calls.in_ (Ref.isConf_of t c wd v HC.out _)))))
    refine wpQuiet_nil ?_
    intro w4 F
    have hB := F.heap hB (by simp)
    have G := G.trans F
    clear F q0 q1 q2 q3 c0 c1 c2 c3
    obtain ⟨c0, c1, c2, c3⟩ := cells4 hB
    by_cases a1 : t < 1
    · go_wp2
      go_ret
      exact ⟨rfl, G⟩
    have b1 : decide (t < 1) = false := by simpa using a1
    by_cases a2 : 8 < t
    · clear a1
      go_wp2
      go_ret
      exact ⟨rfl, G⟩
    have b2 : decide (8 < t) = false := by simpa using a2
    by_cases a3 : c < 1
    · clear a1 a2
      go_wp2
      go_ret
      exact ⟨rfl, G⟩
    have b3 : decide (c < 1) = false := by simpa using a3
    by_cases a4 : 16 < c
    · clear a1 a2 a3
      go_wp2
      go_ret
      exact ⟨rfl, G⟩
    have b4 : decide (16 < c) = false := by simpa using a4
    have t1' : 1 ≤ t := by omega
    have t2' : t ≤ 8 := by omega
    have c1' : 1 ≤ c := by omega
    have c2' : c ≤ 16 := by omega
    clear a1 a2 a3 a4 c0 c1 c2 c3
    obtain ⟨c0, c1, c2, c3⟩ := cells4 hB
    have q0 := In.cell c0
    have q1 := In.cell c1
    have q2 := In.cell c2
    have q3 := In.cell c3
    go_wp2_with fail
    refine wp_region_in (by kernel_rfl) (by kernel_rfl) ?_
    repeat (go_big_quiet_step ((first | (go_at_call 11; exact Calls.in_ (size_any _ _ _ _ c1' c2' _)) | (go_at_call 12; exact Calls.in_ (Ref.size_any _ _ _ _ c1' c2' _)) | (go_at_call 13; exact Calls.in_same (psa_any _ (by omega) (by omega) _)) | (go_at_call 14; exact Calls.in_same (Ref.psa_any _ (by omega) (by omega) _)) | (go_at_call 15; exact Calls.in_ (hint_any _ _ _ _ _ t1' t2' (by omega) (by omega) _)) | (go_at_call 16; exact Calls.in_ (Ref.hint_any _ _ _ _ _ t1' t2' (by omega) (by omega) _)) | (go_at_call 17; exact Calls.in_ (head_any _ _ _ _ t1' t2' _)) | (go_at_call 18; exact Calls.in_ (Ref.head_any _ _ _ _ t1' t2' _)) | (go_at_call 19; exact Calls.in_ (first_any _ _ _ _ t1' t2' _)) | (go_at_call 20; exact Calls.in_ (Ref.first_any _ _ _ _ t1' t2' _)) | (go_at_call 21; exact Calls.in_ (top_any _ _ _ _ t1' t2' c1' c2' _)) | (go_at_call 22; exact Calls.in_ (Ref.top_any _ _ _ _ t1' t2' c1' c2' _)) | (go_at_call 23; exact Calls.in_same (state_any _ _ (by omega) (by omega) (by omega) (by omega) _)) | (go_at_call 24; exact Calls.in_same (Ref.state_any _ _ (by omega) (by omega) (by omega) (by omega) _)))))
    refine wpQuiet_nil ?_
    intro w9 F
    have G := G.trans F
    go_wp2
    go_ret
    exact ⟨rfl, G⟩
end Go.Proofs.YtafmcilonpkpbaaDoor.Pl
