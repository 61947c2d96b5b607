/- The walk of ModelDeletes, whatever the map is made of. -/
import Derived.Test.YtjhgjpkiinkaeaaKnown5
namespace Go.Proofs.Ytjhgjpkiinkaeaa.Mp
open Go.RowKit Go.Proofs.Ytjhgjpkiinkaeaa.Ar Go.Proofs.Ytjhgjpkiinkaeaa.Og
set_option linter.unusedVariables false
set_option linter.unusedSimpArgs false
variable {Mo : World → Nat → List Nat → (Nat → Int) → (Nat → Int) → Prop}
theorem fit_put {n : Nat} {v : Int} (hn : n < 64) (h0 : 0 ≤ v) (h1 : v ≤ 1048576) : fit 1 n v 0 = true := by unfold fit inF most; simp; omega
theorem fit_del {n : Nat} (hn : n < 64) : fit 2 n 0 0 = true := by unfold fit inF most; simp; omega
theorem fit_get {n : Nat} (hn : n < 64) : fit 3 n 0 0 = true := by unfold fit inF most; simp; omega
theorem fit_scan {n m : Nat} (hn : n < 64) (hm : m < 64) : fit 4 n 0 m = true := by unfold fit inF most; simp; omega
theorem ans_put (V W : Nat → Int) {n : Nat} {v : Int} (hn : n < 64) (h0 : 0 ≤ v) (h1 : v ≤ 1048576) : ans V W 1 n v 0 = ⟨0, false, 0, -1, 0, []⟩ := by unfold ans doA; rw [if_pos (fit_put hn h0 h1)]; rfl
theorem ans_del (V W : Nat → Int) {n : Nat} (hn : n < 64) : ans V W 2 n 0 0 = ⟨0, false, 0, -1, 0, []⟩ := by unfold ans doA; rw [if_pos (fit_del hn)]; rfl
theorem ans_get (V W : Nat → Int) {n : Nat} (hn : n < 64) : ans V W 3 n 0 0 = ⟨0, decide (0 ≤ V n), max 0 (V n), W n, 0, []⟩ := by unfold ans doA; rw [if_pos (fit_get hn), if_pos rfl]; simp
theorem ans_scan (V W : Nat → Int) {n m : Nat} (hn : n < 64) (hm : m < 64) : ans V W 4 n 0 m = ⟨0, false, 0, -1, 0, scan V n m⟩ := by unfold ans doA; rw [if_pos (fit_scan hn hm), if_neg (by decide), if_pos rfl]; simp
theorem nx_put (V W : Nat → Int) {n : Nat} {v wr : Int} (hn : n < 64) (h0 : 0 ≤ v) (h1 : v ≤ 1048576) : nxV V 1 n v 0 = upd V n v ∧ nxW W 1 n v 0 wr = upd W n wr := by
  unfold nxV nxW doV doW; rw [if_pos (fit_put hn h0 h1), if_pos (fit_put hn h0 h1), if_pos rfl, if_pos (.inl rfl)]; simp
theorem nx_del (V W : Nat → Int) {n : Nat} {wr : Int} (hn : n < 64) : nxV V 2 n 0 0 = upd V n (-1) ∧ nxW W 2 n 0 0 wr = upd W n wr := by
  unfold nxV nxW doV doW; rw [if_pos (fit_del hn), if_pos (fit_del hn), if_neg (by decide), if_pos rfl, if_pos (.inr rfl)]; simp
theorem nx_get (V W : Nat → Int) {n : Nat} {wr : Int} (hn : n < 64) : nxV V 3 n 0 0 = V ∧ nxW W 3 n 0 0 wr = W := by
  unfold nxV nxW doV doW; rw [if_pos (fit_get hn), if_pos (fit_get hn), if_neg (by decide), if_neg (by decide), if_neg (by decide)]; exact ⟨rfl, rfl⟩
theorem nx_scan (V W : Nat → Int) {n m : Nat} {wr : Int} (hn : n < 64) (hm : m < 64) : nxV V 4 n 0 m = V ∧ nxW W 4 n 0 m wr = W := by
  unfold nxV nxW doV doW; rw [if_pos (fit_scan hn hm), if_pos (fit_scan hn hm), if_neg (by decide), if_neg (by decide), if_neg (by decide)]; exact ⟨rfl, rfl⟩
theorem upd_same (f : Nat → Int) (k : Nat) (v : Int) : upd f k v k = v := by simp [upd]
theorem scan_one {V : Nat → Int} {n : Nat} (h : V n = -1) : scan V n n = [] := by
  unfold scan; rw [show n + 1 - n = 1 by omega, prs_succ]; simp [prs, h]
theorem wf_small {k : Int} (h1 : -1000000 ≤ k) (h2 : k ≤ 1000000) : (Lit.int .i64 k).wf = true := WalkArith.wf_i64 (by omega)
/-- Where the loop over the deletes stands. -/
def DlAt (Mo : World → Nat → List Nat → (Nat → Int) → (Nat → Int) → Prop) (w : World) (q n : Nat) (N : Int) (x : Value) (wr : World) : Prop := ∃ (i : Nat) (B : List Nat) (V W : Nat → Int), (i : Int) ≤ N + 1 ∧ x = .int .i64 i ∧ Mine Mo w wr q B V W ∧ W n = 1 + i ∧ (1 ≤ i → V n = -1)
set_option maxRecDepth 100000 in
set_option maxHeartbeats 8000000 in
theorem deletes_true (C : MapC Mo) (ky va ot nn : Int) (w : World) (h1 : 0 ≤ ky ∧ ky < 256) (h2 : 0 ≤ va ∧ va < 65536) (h3 : 0 ≤ ot ∧ ot < 65536) (h4 : 0 ≤ nn ∧ nn < 256) :
    Calls Try.prog 7 #[.int .u8 ky, .int .u16 va, .int .u16 ot, .int .u8 nn] w fun e w' => e = .returned (.bool true) ∧ Fr [] w w' := by
  obtain ⟨n, hn, hlt⟩ : ∃ n : Nat, ky % 64 = n ∧ n < 64 := ⟨(ky % 64).toNat, by omega, by omega⟩
  go_enter Try.func7, Try.ntmps7
  go_wp2_with fail
  refine (known_true C _).mono ?_; rintro e w1 ⟨rfl, F1⟩
  go_wp2_with fail
  refine (mine_new C w _ F1).mono ?_; rintro e w2 ⟨q, B2, rfl, M2, -, -⟩
  clear F1
  go_wp2_with fail
  refine (mine_do C 1 n va 0 1 (by decide) (by decide) M2).mono ?_; rintro e w3 ⟨p3, B3, rfl, P3, g3, M3, gr3, F3⟩
  rw [ans_put _ _ hlt h2.1 (by omega)] at P3 ⊢
  simp only [ansv]
  obtain ⟨x3, y3, rfl, -, -⟩ := P3
  rw [(nx_put none1 none1 (wr := 1) hlt h2.1 (by omega)).1, (nx_put none1 none1 hlt h2.1 (by omega)).2] at M3
  clear g3 gr3 F3 M2
  go_wp2_with fail
  go_loopw [11] (DlAt Mo w q n (nn % 4)) (fun x _ => (nn % 4 + 1).toNat - (intOf x).toNat)
  case atStart => exact ⟨0, B3, _, _, by simp; omega, rfl, M3, by rw [upd_same]; rfl, by omega⟩
  case round =>
    obtain ⟨i, B, V, W, hi, rfl, M, hW, hV⟩ := hrel
    clear M3
    by_cases hlt2 : (i : Int) < nn % 4 + 1
    · go_wp2_with fail
      refine (mine_do C 2 n 0 0 (2 + i) (by decide) (wf_small (by omega) (by omega)) M).mono ?_; rintro e w5 ⟨p5, B5, rfl, P5, g5, M5, gr5, F5⟩
      rw [ans_del _ _ hlt] at P5 ⊢
      simp only [ansv]
      obtain ⟨x5, y5, rfl, -, -⟩ := P5
      rw [(nx_del V W (wr := 2 + i) hlt).1, (nx_del V W hlt).2] at M5
      clear g5 gr5 F5 M
      go_wp2
      exact ⟨⟨i + 1, B5, _, _, by omega, by go_num, M5, by rw [upd_same]; omega, fun _ => upd_same _ _ _⟩, by simp [intOf]; omega⟩
    · have hie : (i : Int) = nn % 4 + 1 := by omega
      have hVn : V n = -1 := hV (by omega)
      clear hV
      have HI := Lib.hid hie
      clear hie
      go_wp2_with fail
      refine (C.get q B _ _ n _ hlt M.mo).mono ?_; rintro e w6 ⟨rfl, F6⟩
      rw [hVn]
      have M6 := M.up C F6
      clear M F6
      go_wp2_with fail
      refine (mine_do C 3 n 0 0 50 (by decide) (by decide) M6).mono ?_; rintro e w7 ⟨p7, B7, rfl, P7, g7, M7, gr7, F7⟩
      rw [ans_get _ _ hlt, hVn, hW] at P7 ⊢
      simp only [ansv]
      obtain ⟨x7, y7, rfl, -, -⟩ := P7
      rw [(nx_get V W (wr := 50) hlt).1, (nx_get V W hlt).2] at M7
      have Ka := Keep.new C M7 (.cells #[.int .i64 0, .bool false, .int .i64 0, .int .i64 (1 + i), .int .i64 0, .slice x7 0 y7] 31)
      have f7 := (Fr.refl [] w7).alloc (.cells #[.int .i64 0, .bool false, .int .i64 0, .int .i64 (1 + i), .int .i64 0, .slice x7 0 y7] 31)
      replace M7 := M7.up C f7
      clear g7 gr7 F7 M6 f7
      simp only [List.length_nil]
      rw [show decide ((0 : Int) ≤ -1) = false by decide, show max (0 : Int) (-1) = 0 by decide]
      go_wp2_with fail
      generalize (w7.alloc (.cells #[.int .i64 0, .bool false, .int .i64 0, .int .i64 (1 + i), .int .i64 0, .slice x7 0 y7] 31)) = v7 at *
      generalize w7.heap.size = b7 at *
      refine (mine_do C 4 n 0 n 51 (by decide) (by decide) M7).mono ?_; rintro e w8 ⟨p8, B8, rfl, P8, g8, M8, gr8, F8⟩
      rw [ans_scan _ _ hlt hlt, scan_one hVn] at P8 ⊢
      simp only [ansv]
      obtain ⟨x8, y8, rfl, -, -⟩ := P8
      rw [(nx_scan V W (wr := 51) hlt hlt).1, (nx_scan V W hlt hlt).2] at M8
      replace Ka := Ka.step gr8 F8
      have Kb := Keep.new C M8 (.cells #[.int .i64 0, .bool false, .int .i64 0, .int .i64 (-1), .int .i64 0, .slice x8 0 y8] 31)
      have f8 := (Fr.refl [] w8).alloc (.cells #[.int .i64 0, .bool false, .int .i64 0, .int .i64 (-1), .int .i64 0, .slice x8 0 y8] 31)
      replace M8 := M8.up C f8
      replace Ka := Ka.up f8
      clear g8 gr8 F8 M7 f8
      simp only [List.length_nil]
      go_wp2_with fail
      generalize (w8.alloc (.cells #[.int .i64 0, .bool false, .int .i64 0, .int .i64 (-1), .int .i64 0, .slice x8 0 y8] 31)) = v8 at *
      generalize w8.heap.size = b8 at *
      refine (mine_do C 1 n ot 0 60 (by decide) (by decide) M8).mono ?_; rintro e w9 ⟨p9, B9, rfl, P9, g9, M9, gr9, F9⟩
      rw [ans_put _ _ hlt h3.1 (by omega)] at P9 ⊢
      simp only [ansv]
      obtain ⟨x9, y9, rfl, -, -⟩ := P9
      rw [(nx_put V W (wr := 60) hlt h3.1 (by omega)).1, (nx_put V W hlt h3.1 (by omega)).2] at M9
      replace Ka := Ka.step gr9 F9
      replace Kb := Kb.step gr9 F9
      clear g9 gr9 F9 M8
      go_wp2_with fail
      refine (C.get q B9 _ _ n _ hlt M9.mo).mono ?_; rintro e w10 ⟨rfl, F10⟩
      rw [upd_same, show max 0 ot = ot by omega, show decide (0 ≤ ot) = true by simp; omega]
      have M10 := M9.up C F10
      replace Ka := Ka.up F10
      replace Kb := Kb.up F10
      clear M9 F10
      obtain ⟨a0, a1, a2, a3, a4, a5⟩ := cells6 Ka.1
      obtain ⟨b0, b1, b2, b3, b4, b5⟩ := cells6 Kb.1
      have gi : ((1 + (i : Int)) == 2 + nn % 4) = true := by have := HI.out; simp; omega
      clear Ka Kb
      go_wp2_with fail
      refine (C.writer q B9 _ _ n _ hlt M10.mo).mono ?_; rintro e w11 ⟨rfl, F11⟩
      rw [upd_same]
      have G := M10.g.trans F11
      clear M10 F11 a0 a1 a2 a3 a4 a5 b0 b1 b2 b3 b4 b5
      go_wp2
      go_ret
      exact ⟨rfl, G⟩
end Go.Proofs.Ytjhgjpkiinkaeaa.Mp
