/- The walk of PlaceWords. -/
import Derived.Test.YtafmcilonpkpbaaKnown3
namespace Go.Proofs.Ytafmcilonpkpbaa.Pl
open Go.RowKit Go.Proofs.Ytafmcilonpkpbaa.Ar
/-- The cells of the drawn configuration. -/
def cellsOf (a0 a1 : Int) : Int := a0 % 8 + 1 + 2 + a1 % (16 - (a0 % 8 + 1) - 1)
theorem cellsOf_bd (a0 a1 : Int) : (1 ≤ a0 % 8 + 1 ∧ a0 % 8 + 1 ≤ 8) ∧ (0 < 16 - (a0 % 8 + 1) - 1) ∧ (0 ≤ a1 % (16 - (a0 % 8 + 1) - 1) ∧ a1 % (16 - (a0 % 8 + 1) - 1) < 16 - (a0 % 8 + 1) - 1) := by
  have h : 0 < 16 - (a0 % 8 + 1) - 1 := by omega
  exact ⟨by omega, h, Int.emod_nonneg _ (by omega), Int.emod_lt_of_pos _ h⟩
theorem code_of {t c wd : Int} {n : Int} (h1 : 1 ≤ t) (h2 : t ≤ 8) (h3 : t + 2 ≤ c) (h4 : c ≤ 16) (h5 : 1 ≤ wd) (h6 : wd ≤ 20000) (hn : n = if 21 + t + 3 * c ≤ wd then 0 else 14) : code t c wd 1000 = n := by
  rw [code, if_pos (form_iff.2 ⟨h1, h2, h3, h4, by decide, by decide, h5, h6⟩), hn]
set_option maxHeartbeats 1600000 in
theorem words_less (a0 a1 : Int) (w : World) (h0 : 0 ≤ a0) (h0' : a0 ≤ 255) (h1 : 0 ≤ a1) (h1' : a1 ≤ 255) :
    Calls Try.prog 4 #[.int .u8 a0, .int .u8 a1, .bool true] w fun e w' => e = .returned (.bool true) ∧ Fr [] w w' := by
  have isE := Er.isE
  obtain ⟨⟨t1, t2⟩, hd, he1, he2⟩ := cellsOf_bd a0 a1
  go_enter Try.func4, Try.ntmps4
  go_wp2_with fail
  refine (known_true _).mono ?_; rintro e w1 ⟨rfl, F1⟩
  go_wp2_with fail
  refine (conf_any _ _ _ _).mono ?_; rintro e w2 ⟨rfl, F2⟩
  have c1 : a0 % 8 + 1 + 2 ≤ a0 % 8 + 1 + 2 + a1 % (16 - (a0 % 8 + 1) - 1) := by omega
  have c2 : a0 % 8 + 1 + 2 + a1 % (16 - (a0 % 8 + 1) - 1) ≤ 16 := by omega
  have G2 := F1.trans F2
  clear he1 he2 hd F1 F2
  generalize a0 % 8 + 1 + 2 + a1 % (16 - (a0 % 8 + 1) - 1) = c at c1 c2 ⊢
  generalize a0 % 8 + 1 = t at t1 t2 c1 ⊢
  go_wp2_with fail
  have G3 := G2.alloc (.cells #[.int .i64 t, .int .i64 c, .int .i64 500, .int .i64 1000] 24)
  refine (top_any t c 500 1000 t1 t2 (by omega) c2 _).mono ?_; rintro e w3 ⟨rfl, F3⟩
  have hB := F3.heap (Go.heap_alloc_new w2 (.cells #[.int .i64 t, .int .i64 c, .int .i64 500, .int .i64 1000] 24)) (by simp)
  obtain ⟨k0, k1, k2, k3⟩ := cells4 hB
  have kf : w3.frozen? ⟨w2.heap.size, 2, none⟩ = false := frozen_of_row _ _ _ _ _ hB
  have HB := Lib.hid hB
  have HG := Lib.hid (G3.trans F3)
  have hb := G2.size
  clear hB F3 G3 G2
  generalize w2.heap.size = b at *
  go_wp2_with fail
  refine (make_no t c _ 1000 14 (.inr rfl) (code_of t1 t2 c1 c2 (by omega) (by omega) (by rw [if_neg (by omega)])) _).mono ?_; rintro e w4 ⟨rfl, F4⟩
  have G4 := ((HG.out.own (Fr.setCell (.int .i64 (21 + t + 3 * c)) (List.mem_singleton.2 rfl)) (by simpa using hb)).own (Fr.setCell (i := 2) (.int .i64 (21 + t + 3 * c - 1)) (List.mem_singleton.2 rfl)) (by simpa using hb)).trans F4
  clear F4
  go_wp2
  go_ret
  exact ⟨rfl, G4⟩
theorem at_any (k : Int) (w : World) :
    Calls Try.prog 18 #[.int .i64 (2 * k)] w fun e w' => e = .returned (.int .i64 k) ∧ w = w' := by
  go_enter Try.func18, Try.ntmps18
  go_wp2
  go_ret
  exact ⟨ret_eq (by omega), rfl⟩
/-- Where the loop over the words stands. -/
def WL (w : World) (b p q n : Nat) (t c : Int) (v : Value) (wr : World) : Prop := ∃ k : Nat, k ≤ n ∧ v = .int .i64 k ∧ Ar wr p q (begun t c n) ∧ wr.heap[b]? = some (.cells #[.int .i64 t, .int .i64 c, .int .i64 n, .int .i64 1000] 24 (0, 0)) ∧ Fr [] w wr
theorem words_round (t c : Int) (k : Nat) (t1 : 1 ≤ t) (t2 : t ≤ 8) (c1 : t + 2 ≤ c) :
    laidAt t c k = 0 ∨ (((k : Int) != 2) = false ∧ (laidAt t c k != 0) = true) ∨ (((k : Int) != 3 + t + 4) = false ∧ (laidAt t c k != 0) = true ∧ ((k : Int) != 2) = true) ∨ (((k : Int) != 3 + t + 4 + 2) = false ∧ (laidAt t c k != 0) = true ∧ ((k : Int) != 2) = true ∧ ((k : Int) != 3 + t + 4) = true) := by
  unfold laidAt
  by_cases e1 : (k : Int) = 2
  · exact .inr (.inl ⟨by simp; omega, by rw [if_pos e1]; simp; omega⟩)
  · by_cases e2 : (k : Int) = 7 + t
    · exact .inr (.inr (.inl ⟨by simp; omega, by rw [if_neg e1, if_pos e2]; decide, by simpa using e1⟩))
    · by_cases e3 : (k : Int) = 9 + t
      · exact .inr (.inr (.inr ⟨by simp; omega, by rw [if_neg e1, if_neg e2, if_pos e3]; simp; omega, by simpa using e1, by simp; omega⟩))
      · exact .inl (by rw [if_neg e1, if_neg e2, if_neg e3])
set_option maxHeartbeats 1600000 in
theorem words_full (a0 a1 : Int) (w : World) (h0 : 0 ≤ a0) (h0' : a0 ≤ 255) (h1 : 0 ≤ a1) (h1' : a1 ≤ 255) :
    Calls Try.prog 4 #[.int .u8 a0, .int .u8 a1, .bool false] w fun e w' => e = .returned (.bool true) ∧ Fr [] w w' := by
  have isE := Er.isE
  obtain ⟨⟨t1, t2⟩, hd, he1, he2⟩ := cellsOf_bd a0 a1
  go_enter Try.func4, Try.ntmps4
  go_wp2_with fail
  refine (known_true _).mono ?_; rintro e w1 ⟨rfl, F1⟩
  go_wp2_with fail
  refine (conf_any _ _ _ _).mono ?_; rintro e w2 ⟨rfl, F2⟩
  have c1 : a0 % 8 + 1 + 2 ≤ a0 % 8 + 1 + 2 + a1 % (16 - (a0 % 8 + 1) - 1) := by omega
  have c2 : a0 % 8 + 1 + 2 + a1 % (16 - (a0 % 8 + 1) - 1) ≤ 16 := by omega
  have G2 := F1.trans F2
  clear he1 he2 hd F1 F2
  generalize a0 % 8 + 1 + 2 + a1 % (16 - (a0 % 8 + 1) - 1) = c at c1 c2 ⊢
  generalize a0 % 8 + 1 = t at t1 t2 c1 ⊢
  go_wp2_with fail
  have G3 := G2.alloc (.cells #[.int .i64 t, .int .i64 c, .int .i64 500, .int .i64 1000] 24)
  refine (top_any t c 500 1000 t1 t2 (by omega) c2 _).mono ?_; rintro e w3 ⟨rfl, F3⟩
  have hB := F3.heap (Go.heap_alloc_new w2 (.cells #[.int .i64 t, .int .i64 c, .int .i64 500, .int .i64 1000] 24)) (by simp)
  obtain ⟨k0, k1, k2, k3⟩ := cells4 hB
  have kf : w3.frozen? ⟨w2.heap.size, 2, none⟩ = false := frozen_of_row _ _ _ _ _ hB
  have HB := Lib.hid hB
  have HG := Lib.hid (G3.trans F3)
  have hb := G2.size
  clear hB F3 G3 G2
  generalize w2.heap.size = b at *
  go_wp2_with fail
  have hcode : code t c (21 + t + 3 * c) 1000 = 0 := code_of t1 t2 c1 c2 (by omega) (by omega) (by rw [if_pos (by omega)])
  have hB4 : (w3.setCell ⟨b, 2, none⟩ (.int .i64 (21 + t + 3 * c))).heap[b]? = some (.cells #[.int .i64 t, .int .i64 c, .int .i64 (21 + t + 3 * c), .int .i64 1000] 24 (0, 0)) := heap_setCell_same _ _ _ _ _ _ HB.out
  have G4 := HG.out.own (Fr.setCell (i := 2) (.int .i64 (21 + t + 3 * c)) (List.mem_singleton.2 rfl)) (by simpa using hb)
  refine (make_yes t c _ 1000 hcode _).mono ?_; rintro e w4 ⟨p, q, rfl, hp, hq, A, F4⟩
  have hB5 := F4.heap hB4 (by simp)
  have G5 := G4.trans F4
  clear hB4 G4 F4 hp hq HB HG kf k0 k1 k2 k3 hcode hb
  obtain ⟨n, hn⟩ := Int.eq_ofNat_of_zero_le (show 0 ≤ 21 + t + 3 * c by omega)
  rw [hn] at A hB5 ⊢
  obtain ⟨b1, b2, _, _⟩ := begun_nth (c := c) (wd := n) t1 t2 (by omega) (by omega)
  simp only [Int.toNat_natCast] at b1 b2
  have P2 : peek (begun t c n).l 2 = n := (begun_peek (n := n) 2 t1 t2 (by omega) (by omega) (by omega)).trans hn
  obtain ⟨k0, k1, k2, k3⟩ := cells4 hB5
  have i0 := In.cell k0
  have i1 := In.cell k1
  have i2 := In.cell k2
  have i3 := In.cell k3
  have B2 := Lib.hid b2
  have B1 := Lib.hid b1
  have HP2 := Lib.hid P2
  clear k0 k1 k2 k3 b1 b2 P2
  go_wp2_with fail
  refine wp_region_in (by kernel_rfl) (by kernel_rfl) ?_
  repeat (go_big_quiet_step ((first | (go_at_call 16; exact Calls.in_same (len_of' _ p q _ n (A.kept (In.fr _) (by simp) (by simp)) B1.out)) | (go_at_call 17; exact Calls.in_same (peek_of' _ p q _ 2 n (A.kept (In.fr _) (by simp) (by simp)) HP2.out)))))
  refine wpQuiet_nil ?_
  intro w5 F5
  have A5 := A.kept F5 (by simp) (by simp)
  have hB6 := F5.heap hB5 (by simp)
  have G6 := G5.trans F5
  clear F5 A hB5 G5 i0 i1 i2 i3
  go_wp2_with fail
  go_loopw [11] (fun v wr => WL w b p q n t c v wr) (fun v _ => n - (intOf v).toNat)
  case atStart => exact ⟨0, Nat.zero_le _, rfl, A5, hB6, G6⟩
  case round =>
    obtain ⟨k, hk, rfl, Aq, Bq, Gq⟩ := hrel
    clear A5 hB6 G6
    obtain ⟨k0, k1, k2, k3⟩ := cells4 Bq
    by_cases hlt : k < n
    · have H := Lib.hid (words_round t c k t1 t2 c1)
      have hpk : peek (begun t c n).l k = laidAt t c k := by rw [peek_at (by rw [B1.out]; exact hlt)]; exact B2.out k hlt
      have HP := Lib.hid hpk
      clear hpk
      go_wp2_with fail
      refine (len_of' _ p q _ n Aq B1.out).mono ?_; rintro e _ ⟨rfl, rfl⟩
      go_wp2_with fail
      refine (peek_of' _ p q _ k _ Aq HP.out).mono ?_; rintro e _ ⟨rfl, rfl⟩
      rcases H.out with h | ⟨h', h⟩ | ⟨hk7, h, h'⟩ | ⟨hk9, h, h', h''⟩
      · go_wp2_with fail
        go_roundw
        case rel => exact ⟨k + 1, by omega, by go_num, Aq, Bq, Gq⟩
        case measure => simp [intOf]; omega
      · go_wp2_with fail
        go_roundw
        case rel => exact ⟨k + 1, by omega, by go_num, Aq, Bq, Gq⟩
        case measure => simp [intOf]; omega
      · go_wp2_with fail
        refine (head_any t c n 1000 t1 t2 _).mono ?_; rintro e w6 ⟨rfl, F6⟩
        have A6 := Aq.kept F6 (by simp) (by simp)
        have B6 := F6.heap Bq (by simp)
        have G6 := Gq.trans F6
        clear F6 Aq Bq Gq k0 k1 k2 k3
        go_wp2_with fail
        go_roundw
        case rel => exact ⟨k + 1, by omega, by go_num, A6, B6, G6⟩
        case measure => simp [intOf]; omega
      · go_wp2_with fail
        refine (head_any t c n 1000 t1 t2 _).mono ?_; rintro e w6 ⟨rfl, F6⟩
        have A6 := Aq.kept F6 (by simp) (by simp)
        have B6 := F6.heap Bq (by simp)
        have G6 := Gq.trans F6
        clear F6 Aq Bq Gq k0 k1 k2 k3
        obtain ⟨k0, k1, k2, k3⟩ := cells4 B6
        go_wp2_with fail
        refine (head_any t c n 1000 t1 t2 _).mono ?_; rintro e w7 ⟨rfl, F7⟩
        have A7 := A6.kept F7 (by simp) (by simp)
        have B7 := F7.heap B6 (by simp)
        have G7 := G6.trans F7
        clear F7 A6 B6 G6 k0 k1 k2 k3
        go_wp2_with fail
        go_roundw
        case rel => exact ⟨k + 1, by omega, by go_num, A7, B7, G7⟩
        case measure => simp [intOf]; omega
    · obtain rfl : n = k := by omega
      go_wp2_with fail
      refine (len_of' _ p q _ n Aq B1.out).mono ?_; rintro e _ ⟨rfl, rfl⟩
      have i0 := In.cell k0
      have i1 := In.cell k1
      have i2 := In.cell k2
      have i3 := In.cell k3
      clear k0 k1 k2 k3
      have P9 : peek (begun t c n).l (3 + t + 4 + 2) = 2 * (14 + t) := by
        obtain ⟨m, hm⟩ := Int.eq_ofNat_of_zero_le (show 0 ≤ 3 + t + 4 + 2 by omega)
        rw [hm, peek_at (by rw [B1.out]; omega), B2.out m (by omega), laidAt, if_neg (by omega), if_neg (by omega), if_pos (by omega)]
      have HP9 := Lib.hid P9
      clear P9
      go_wp2_with fail
      refine wp_region_in (by kernel_rfl) (by kernel_rfl) ?_
      repeat (go_big_quiet_step ((first | (go_at_call 10; exact Calls.in_ (head_any t c n 1000 t1 t2 _)) | (go_at_call 11; exact Calls.in_ (first_any t c n 1000 t1 t2 _)) | (go_at_call 17; exact Calls.in_same (peek_of' _ p q _ _ _ (Aq.kept (In.fr _) (by simp) (by simp)) HP9.out)) | (go_at_call 18; exact Calls.in_same (at_any (14 + t) _)))))
      refine wpQuiet_nil ?_
      intro w5 F5
      have G5 := Gq.trans F5
      clear F5
      go_wp2
      go_ret
      exact ⟨by simp; omega, G5⟩
theorem words_true (a0 a1 : Int) (b : Bool) (w : World) (h0 : 0 ≤ a0 ∧ a0 ≤ 255) (h1 : 0 ≤ a1 ∧ a1 ≤ 255) :
    Calls Try.prog 4 #[.int .u8 a0, .int .u8 a1, .bool b] w fun e w' => e = .returned (.bool true) ∧ Fr [] w w' := by
  cases b
  · exact words_full a0 a1 w h0.1 h0.2 h1.1 h1.2
  · exact words_less a0 a1 w h0.1 h0.2 h1.1 h1.2
end Go.Proofs.Ytafmcilonpkpbaa.Pl
