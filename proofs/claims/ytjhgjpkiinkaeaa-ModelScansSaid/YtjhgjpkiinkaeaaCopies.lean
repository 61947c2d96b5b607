/- The walk of ModelCopies, whatever the map is made of. -/
import Derived.Test.YtjhgjpkiinkaeaaLast5
namespace Go.Proofs.Ytjhgjpkiinkaeaa.Mp
open Go.RowKit Go.Proofs.Ytjhgjpkiinkaeaa.Ar Go.Proofs.Ytjhgjpkiinkaeaa.Og
set_option linter.unusedVariables false
set_option linter.unusedSimpArgs false
variable {Mo : World → Nat → List Nat → (Nat → Int) → (Nat → Int) → Prop}
theorem nxW_lt {W : Nat → Int} {k ky x t wr c : Int} (h : ∀ n, W n < c) (hw : wr < c) : ∀ n, nxW W k ky x t wr n < c := by
  intro n
  unfold nxW doW
  split
  · split
    · show (if n = ky.toNat then wr else W n) < c
      split
      · exact hw
      · exact h n
    · exact h n
  · exact h n
def Lp2 (Mo : World → Nat → List Nat → (Nat → Int) → (Nat → Int) → Prop) (w : World) (q n : Nat) (x : Value) (wr : World) : Prop := ∃ (i : Nat) (B : List Nat) (V W : Nat → Int), i ≤ n ∧ x = .int .i64 i ∧ Mine Mo w wr q B V W ∧ ∀ n, W n < 100
/-- Where the loop on the copy stands: what the first one holds is as it was, and so is the row of pairs. -/
def Lp3 (Mo : World → Nat → List Nat → (Nat → Int) → (Nat → Int) → Prop) (w : World) (q : Nat) (B : List Nat) (V W : Nat → Int) (q2 n : Nat) (pv : Value) (x : Value) (wr : World) : Prop := ∃ (i : Nat) (B2 : List Nat) (V2 W2 : Nat → Int), i ≤ n ∧ x = .int .i64 i ∧ Mine Mo w wr q B V W ∧ Mine Mo w wr q2 B2 V2 W2 ∧ (∀ b, b ∈ B → b ∉ B2) ∧ KeepP wr B2 pv (scan V 0 63)
def Lp4 (Mo : World → Nat → List Nat → (Nat → Int) → (Nat → Int) → Prop) (w : World) (q : Nat) (B : List Nat) (V W : Nat → Int) (pv : Value) (x : Value) (wr : World) : Prop := ∃ (i : Nat), i ≤ 64 ∧ x = .int .i64 i ∧ Mine Mo w wr q B V W ∧ PairRow wr pv (scan V 0 63)
set_option maxRecDepth 100000 in
set_option maxHeartbeats 8000000 in
theorem copies_true (C : MapC Mo) (os os2 : List O) (v v2 : Value) (w : World) (ho : OpRow w v os) (ho2 : OpRow w v2 os2) :
    Calls Try.prog 6 #[v, v2] w fun e w' => e = .returned (.bool true) ∧ Fr [] w w' := by
  obtain ⟨a, cap, rfl, hl, hw, hc⟩ := ho
  obtain ⟨a2, cap2, rfl, hl2, hw2, hc2⟩ := ho2
  have HC := Lib.hid hc
  have HW := Lib.hid hw
  have HC2 := Lib.hid hc2
  have HW2 := Lib.hid hw2
  clear hc hw hc2 hw2
  unfold maxLen at hl hl2
  go_enter Try.func6, Try.ntmps6
  go_wp2_with fail
  refine (known_true C _).mono ?_; rintro e w1 ⟨rfl, F1⟩
  by_cases h40 : 40 < os.length
  · have g : decide ((os.length : Int) > 40) = true := by simp; omega
    go_wp2
    go_ret
    exact ⟨rfl, F1⟩
  have g40 : decide ((os.length : Int) > 40) = false := by simp; omega
  by_cases h41 : 40 < os2.length
  · have g : decide ((os2.length : Int) > 40) = true := by simp; omega
    go_wp2
    go_ret
    exact ⟨rfl, F1⟩
  have g41 : decide ((os2.length : Int) > 40) = false := by simp; omega
  go_wp2_with fail
  refine (mine_new C w _ F1).mono ?_; rintro e w3 ⟨q, B3, rfl, M3, hB3, F3⟩
  clear hB3 F3 F1 g40 g41
  go_wp2_with fail
  go_loopw [6] (Lp2 Mo w q os.length) (fun y _ => os.length - (intOf y).toNat)
  case atStart => exact ⟨0, B3, _, _, Nat.zero_le _, rfl, M3, fun n => by unfold none1; omega⟩
  case round =>
    obtain ⟨i, B, V, W, hi, rfl, M, hWb⟩ := hrel
    clear M3
    by_cases hlt : i < os.length
    · rcases HC.out with hz | ⟨b, off, rfl, hbb, hcell⟩
      · omega
      obtain ⟨d0, d1, d2, d3⟩ := hcell i hlt
      have e0 := cellUp M.g d0
      have e1 := cellUp M.g d1
      have e2 := cellUp M.g d2
      have e3 := cellUp M.g d3
      have hwf : wfO (nthO os i) := HW.out _ (nthO_mem hlt)
      clear hcell d0 d1 d2 d3
      go_wp2_with fail
      refine (mine_do C _ _ _ _ (i : Int) hwf (wf_i i (by omega)) M).mono ?_; rintro e w5 ⟨p5, B5, rfl, P5, g5, M5, gr5, F5⟩
      have hWb5 := nxW_lt (k := (nthO os i).1) (ky := (nthO os i).2.1) (x := (nthO os i).2.2.1) (t := (nthO os i).2.2.2) (wr := (i : Int)) hWb (by omega)
      clear P5 g5 gr5 F5 M e0 e1 e2 e3
      generalize ansv (ans V W (nthO os i).1 (nthO os i).2.1 (nthO os i).2.2.1 (nthO os i).2.2.2) p5 = val
      generalize nxV V (nthO os i).1 (nthO os i).2.1 (nthO os i).2.2.1 (nthO os i).2.2.2 = V5 at M5
      generalize nxW W (nthO os i).1 (nthO os i).2.1 (nthO os i).2.2.1 (nthO os i).2.2.2 (i : Int) = W5 at M5 hWb5
      go_wp2
      exact ⟨⟨i + 1, B5, _, _, by omega, by go_num, M5, hWb5⟩, by simp [intOf]; omega⟩
    · obtain rfl : i = os.length := by omega
      go_wp2_with fail
      refine (C.all q B V W _ M.mo).mono ?_; rintro e w5 ⟨⟨pv, rfl, P5, -⟩, F5⟩
      have M5 := M.up C F5
      clear M F5
      go_wp2_with fail
      refine (C.copy q B V W _ M5.mo).mono ?_; rintro e w6 ⟨q2, B6, rfl, hB6, N6, F6⟩
      have M6 := M5.up C F6
      have P6 := P5.up F6
      have hdis : ∀ b, b ∈ B → b ∉ B6 := fun b hB h6 => by have := hB6 b h6; have := C.lt M5.mo b hB; omega
      have K6 : KeepP w6 B6 pv (scan V 0 63) := by
        refine ⟨P6, ?_⟩
        by_cases h0 : (scan V 0 63).length = 0
        · exact .inl h0
        · exact .inr fun g hg => ⟨fun h6 => by have := hB6 g h6; have := P5.lt h0 g hg; omega, P6.lt h0 g hg⟩
      have N6' : Mine Mo w w6 q2 B6 V W := ⟨N6, fun b h6 => Nat.le_trans M5.g.size (hB6 b h6), M6.g⟩
      clear M5 F6 hB6 N6 P5 P6
      go_wp2_with fail
      refine (C.all q2 B6 V W _ N6'.mo).mono ?_; rintro e w7 ⟨⟨pv2, rfl, P7, -⟩, F7⟩
      have M7 := M6.up C F7
      have N7 := N6'.up C F7
      have K7 := K6.up F7
      clear M6 N6' K6 F7
      go_wp2_with fail
      refine (samePairs_true _ _ _ _ P7 K7.1).mono ?_; rintro e w8 ⟨rfl, F8⟩
      have M8 := M7.up C F8
      have N8 := N7.up C F8
      have K8 := K7.up F8
      clear M7 N7 K7 F8 P7
      go_wp2_with fail
      go_loopw [9] (Lp3 Mo w q B V W q2 os2.length pv) (fun y _ => os2.length - (intOf y).toNat)
      case atStart => exact ⟨0, B6, _, _, Nat.zero_le _, rfl, M8, N8, hdis, K8⟩
      case round =>
        obtain ⟨j, B2, V2, W2, hj, rfl, M, N, hdj, K⟩ := hrel
        clear M8 N8 K8 hdis
        by_cases hlt : j < os2.length
        · rcases HC2.out with hz | ⟨b, off, rfl, hbb, hcell⟩
          · omega
          obtain ⟨d0, d1, d2, d3⟩ := hcell j hlt
          have e0 := cellUp M.g d0
          have e1 := cellUp M.g d1
          have e2 := cellUp M.g d2
          have e3 := cellUp M.g d3
          have hwf : wfO (nthO os2 j) := HW2.out _ (nthO_mem hlt)
          clear hcell d0 d1 d2 d3
          go_wp2_with fail
          refine (mine_do C _ _ _ _ (100 + (j : Int)) hwf (wf_small (by omega) (by omega)) N).mono ?_; rintro e w9 ⟨p9, B9, rfl, P9, g9, N9, gr9, F9⟩
          have M9 : Mine Mo w w9 q B V W := ⟨C.kept M.mo F9 hdj, M.own, N9.g⟩
          have hd9 : ∀ b, b ∈ B → b ∉ B9 := fun b hb => gr9.off (hdj b hb) (C.lt M.mo b hb)
          have K9 := K.step gr9 F9
          clear P9 g9 gr9 F9 M N K hdj e0 e1 e2 e3
          generalize ansv (ans V2 W2 (nthO os2 j).1 (nthO os2 j).2.1 (nthO os2 j).2.2.1 (nthO os2 j).2.2.2) p9 = val
          generalize nxV V2 (nthO os2 j).1 (nthO os2 j).2.1 (nthO os2 j).2.2.1 (nthO os2 j).2.2.2 = V5 at N9
          generalize nxW W2 (nthO os2 j).1 (nthO os2 j).2.1 (nthO os2 j).2.2.1 (nthO os2 j).2.2.2 (100 + (j : Int)) = W5 at N9
          go_wp2
          exact ⟨⟨j + 1, B9, _, _, by omega, by go_num, M9, N9, hd9, K9⟩, by simp [intOf]; omega⟩
        · obtain rfl : j = os2.length := by omega
          have P := K.1
          clear K N hdj
          go_wp2_with fail
          go_loopw [10] (Lp4 Mo w q B V W pv) (fun y _ => 64 - (intOf y).toNat)
          case atStart => exact ⟨0, by omega, rfl, M, P⟩
          case round =>
            obtain ⟨n, hn, rfl, M, P⟩ := hrel
            by_cases hn64 : n < 64
            · have g : decide ((n : Int) ≤ 63) = true := by simp; omega
              have g2 : decide (W n ≥ 100) = false := by have := hWb n; simp; omega
              go_wp2_with fail
              refine (C.writer q B _ _ n _ hn64 M.mo).mono ?_; rintro e w11 ⟨rfl, F11⟩
              have M11 := M.up C F11
              have P11 := P.up F11
              clear M P F11
              go_wp2
              exact ⟨⟨n + 1, by omega, by go_num, M11, P11⟩, by simp [intOf]; omega⟩
            · obtain rfl : n = 64 := by omega
              have g : decide (((64 : Nat) : Int) ≤ 63) = false := by decide
              go_wp2_with fail
              refine (C.all q B V W _ M.mo).mono ?_; rintro e w12 ⟨⟨pv3, rfl, P12, -⟩, F12⟩
              have G12 := M.g.trans F12
              have P12' := P.up F12
              clear M P F12
              go_wp2_with fail
              refine (samePairs_true _ _ _ _ P12 P12').mono ?_; rintro e w13 ⟨rfl, F13⟩
              have G13 := G12.trans F13
              clear P12 P12' F13
              go_wp2
              go_ret
              exact ⟨rfl, G13⟩
end Go.Proofs.Ytjhgjpkiinkaeaa.Mp
