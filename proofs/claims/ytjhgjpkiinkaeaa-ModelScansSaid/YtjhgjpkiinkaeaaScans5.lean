/- The walk of ModelScans, whatever the map is made of: its pure side, and the walk up to the parting. -/
import Derived.Test.YtjhgjpkiinkaeaaLast5
import Derived.Test.YtjhgjpkiinkaeaaAppPairs
namespace Go.Proofs.Ytjhgjpkiinkaeaa.Mp
open Go.RowKit Go.Proofs.Ytjhgjpkiinkaeaa.Ar Go.Proofs.Ytjhgjpkiinkaeaa.Og
set_option linter.unusedVariables false
set_option linter.unusedSimpArgs false
variable {Mo : World → Nat → List Nat → (Nat → Int) → (Nat → Int) → Prop}
theorem prs_add (V : Nat → Int) (lo j k : Nat) : prs V lo (j + k) = prs V lo j ++ prs V (lo + j) k := by
  induction k with
  | zero => simp [prs]
  | succ k ih => rw [← Nat.add_assoc, prs_succ, ih, prs_succ, List.append_assoc, Nat.add_assoc]
/-- A range parted in two. -/
theorem scan_split (V : Nat → Int) {a c b : Nat} (h1 : a ≤ c) (h2 : c < b) : scan V a b = scan V a c ++ scan V (c + 1) b := by
  unfold scan
  rw [show b + 1 - a = (c + 1 - a) + (b + 1 - (c + 1)) by omega, prs_add, show a + (c + 1 - a) = c + 1 by omega]
/-- The pair that a key with a value has in its range. -/
theorem prs_get (V : Nat → Int) (lo : Nat) {j n : Nat} (hj : j < n) (hv : 0 ≤ V (lo + j)) : (prs V lo n)[(prs V lo j).length]? = some (((lo + j : Nat) : Int), V (lo + j)) := by
  obtain ⟨d, rfl⟩ : ∃ d, n = (j + 1) + d := ⟨n - (j + 1), by omega⟩
  rw [prs_add, prs_succ, if_pos hv]
  simp
theorem field_pairs (a : Int) (b : Bool) (c d e : Int) (x : Option Addr) (n m : Nat) (W : World) : (Instr.field 31 (.agg #[.int .i64 a, .bool b, .int .i64 c, .int .i64 d, .int .i64 e, .slice x n m]) 5).run Try.prog W = .ok (.slice x n m) W := by kernel_rfl
def Lp0 (Mo : World → Nat → List Nat → (Nat → Int) → (Nat → Int) → Prop) (w : World) (q n : Nat) (x : Value) (wr : World) : Prop := ∃ (i : Nat) (B : List Nat) (V W : Nat → Int), i ≤ n ∧ x = .int .i64 i ∧ Mine Mo w wr q B V W
/-- Where the loop over the range stands. -/
def RgAt (Mo : World → Nat → List Nat → (Nat → Int) → (Nat → Int) → Prop) (w : World) (q : Nat) (B : List Nat) (V W : Nat → Int) (n m : Nat) (pv : Value) (y x : Value) (wr : World) : Prop := ∃ (j : Nat), j ≤ m + 1 - n ∧ x = .int .i64 ((n + j : Nat) : Int) ∧ y = .int .i64 (prs V n j).length ∧ Mine Mo w wr q B V W ∧ KeepP wr B pv (scan V n m)
set_option maxRecDepth 100000 in
set_option maxHeartbeats 8000000 in
theorem scans_true (C : MapC Mo) (os : List O) (lo hi mid : Int) (v : Value) (w : World) (ho : OpRow w v os) (h1 : 0 ≤ lo ∧ lo < 256) (h2 : 0 ≤ hi ∧ hi < 256) (h3 : 0 ≤ mid ∧ mid < 256) :
    Calls Try.prog 5 #[v, .int .u8 lo, .int .u8 hi, .int .u8 mid] w fun e w' => e = .returned (.bool true) ∧ Fr [] w w' := by
  obtain ⟨n, hn, hn64⟩ : ∃ n : Nat, lo % 64 = n ∧ n < 64 := ⟨(lo % 64).toNat, by omega, by omega⟩
  obtain ⟨m, hm, hm64⟩ : ∃ m : Nat, hi % 64 = m ∧ m < 64 := ⟨(hi % 64).toNat, by omega, by omega⟩
  obtain ⟨a, cap, rfl, hl, hw, hc⟩ := ho
  have HC := Lib.hid hc
  have HW := Lib.hid hw
  clear hc hw
  unfold maxLen at hl
  go_enter Try.func5, Try.ntmps5
  go_wp2_with fail
  refine (known_true C _).mono ?_; rintro e w1 ⟨rfl, F1⟩
  by_cases h60 : 60 < os.length
  · have g : decide ((os.length : Int) > 60) = true := by simp; omega
    go_wp2
    go_ret
    exact ⟨rfl, F1⟩
  have g60 : decide ((os.length : Int) > 60) = false := by simp; omega
  go_wp2_with fail
  refine (mine_new C w _ F1).mono ?_; rintro e w3 ⟨q, B3, rfl, M3, hB3, F3⟩
  clear hB3 F3 F1 g60
  go_wp2_with fail
  go_loopw [10] (Lp0 Mo w q os.length) (fun y _ => os.length - (intOf y).toNat)
  case atStart => exact ⟨0, B3, _, _, Nat.zero_le _, rfl, M3⟩
  case round =>
    obtain ⟨i, B, V, W, hi', rfl, M⟩ := hrel
    clear M3
    by_cases hlt : i < os.length
    · rcases HC.out with hz | ⟨b, off, rfl, hbb, hcell⟩
      · omega
      obtain ⟨d0, d1, d2, d3⟩ := hcell i hlt
      have e0 := cellUp M.g d0
      have e1 := cellUp M.g d1
      have e2 := cellUp M.g d2
      have e3 := cellUp M.g d3
      have hwf : wfO (nthO os i) := HW.out _ (nthO_mem hlt)
      clear hcell d0 d1 d2 d3
      go_wp2_with fail
      refine (mine_do C _ _ _ _ (i : Int) hwf (wf_i i (by omega)) M).mono ?_; rintro e w5 ⟨p5, B5, rfl, P5, g5, M5, gr5, F5⟩
      clear P5 g5 gr5 F5 M e0 e1 e2 e3
      generalize ansv (ans V W (nthO os i).1 (nthO os i).2.1 (nthO os i).2.2.1 (nthO os i).2.2.2) p5 = val
      generalize nxV V (nthO os i).1 (nthO os i).2.1 (nthO os i).2.2.1 (nthO os i).2.2.2 = V5 at M5
      generalize nxW W (nthO os i).1 (nthO os i).2.1 (nthO os i).2.2.1 (nthO os i).2.2.2 (i : Int) = W5 at M5
      go_wp2
      exact ⟨⟨i + 1, B5, _, _, by omega, by go_num, M5⟩, by simp [intOf]; omega⟩
    · obtain rfl : i = os.length := by omega
      have hf := field_pairs
      go_wp2_with fail
      refine (mine_do C 4 n 0 m 0 (by decide) (by decide) M).mono ?_; rintro e w5 ⟨pv, B5, rfl, P5, g5, M5, gr5, F5⟩
      rw [ans_scan _ _ hn64 hm64] at P5 ⊢
      rw [(nx_scan V W (wr := 0) hn64 hm64).1, (nx_scan V W hn64 hm64).2] at M5
      have K5 := KeepP.of P5 (fun g hg => (g5 g hg).2)
      obtain ⟨xp, yp, hxp, -, -⟩ := id P5
      subst hxp
      simp only [ansv]
      clear P5 g5 gr5 F5 M
      go_wp2_with fail
      go_loopw [14, 15] (fun y x wr => RgAt Mo w q B5 V W n m (.slice xp (scan V n m).length yp) y x wr) (fun _ x _ => m + 1 - (intOf x).toNat)
      case atStart => exact ⟨0, by omega, rfl, rfl, M5, K5⟩
      case round =>
        obtain ⟨j, hj, rfl, rfl, M, K⟩ := hrel
        clear M5 K5
        by_cases hlt : n + j ≤ m
        · have g : decide (((n + j : Nat) : Int) ≤ (m : Int)) = true := by simp; omega
          have hk64 : n + j < 64 := by omega
          have hget := fun hv : 0 ≤ V (n + j) => prs_get V n (j := j) (n := m + 1 - n) (by omega) hv
          have hsucc := prs_succ V n j
          generalize hkk : n + j = k at *
          go_wp2_with fail
          refine (C.get q B5 _ _ k _ hk64 M.mo).mono ?_; rintro e w6 ⟨rfl, F6⟩
          have M6 := M.up C F6
          have K6 := K.up F6
          clear M K F6
          by_cases hv : 0 ≤ V k
          · rw [show max 0 (V k) = V k by omega, show decide (0 ≤ V k) = true by simpa using hv]
            have hg := hget hv
            rw [if_pos hv] at hsucc
            change (scan V n m)[(prs V n j).length]? = _ at hg
            have hlen : (prs V n j).length < (scan V n m).length := (List.getElem?_eq_some_iff.1 hg).1
            obtain ⟨xa, ya, hxa, -, hxc⟩ := id K6.1
            simp only [Value.slice.injEq] at hxa
            obtain ⟨rfl, -, rfl⟩ := hxa
            rcases hxc with hz | ⟨bb, off, rfl, -, hcell⟩
            · omega
            obtain ⟨c0, c1⟩ := hcell _ hlen
            rw [List.getD_eq_getElem?_getD, hg] at c0 c1
            simp only [Option.getD_some] at c0 c1
            have hs1 : (prs V n (j + 1)).length = (prs V n j).length + 1 := by rw [hsucc]; simp
            have gl : decide (((prs V n j).length : Int) ≥ ((scan V n m).length : Int)) = false := by simp; omega
            have hG := pairGuard
            have hne := pair_neq (k : Int) (V k)
            have hLb := prs_length V n j
            generalize hL : (prs V n j).length = L at *
            have HS := Lib.hid (And.intro hs1 hL)
            have HK := Lib.hid hkk
            clear hcell hg hget hsucc hs1 hL hkk
            go_wp2
            go_roundw
            case rel => exact ⟨j + 1, by have := HK.out; omega, by rw [← HK.out]; go_num, by rw [HS.out.1]; go_num, M6, K6⟩
            case measure => have := HK.out; simp [intOf]; omega
          · rw [show decide (0 ≤ V k) = false by simpa using hv]
            rw [if_neg hv, List.append_nil] at hsucc
            have HS := Lib.hid hsucc
            have HK := Lib.hid hkk
            clear hget hsucc hkk
            go_wp2
            go_roundw
            case rel => exact ⟨j + 1, by have := HK.out; omega, by rw [← HK.out]; go_num, by rw [HS.out], M6, K6⟩
            case measure => have := HK.out; simp [intOf]; omega
        · have g : decide (((n + j : Nat) : Int) ≤ (m : Int)) = false := by simp; omega
          have hjs : prs V n j = scan V n m := by unfold scan; rw [show m + 1 - n = j by omega]
          rw [hjs]
          by_cases hge : m ≤ n
          · have g2 : decide ((n : Int) ≥ (m : Int)) = true := by simp; omega
            clear hjs
            go_wp2
            go_ret
            exact ⟨rfl, M.g⟩
          · have g2 : decide ((n : Int) ≥ (m : Int)) = false := by simp; omega
            clear hjs
            obtain ⟨c, hc, hc1, hc2⟩ : ∃ c : Nat, wrap64 ((n : Int) + mid % ((m : Int) - n)) = c ∧ n ≤ c ∧ c < m := by
              have hpos : 0 < (m : Int) - n := by omega
              have e1 := Int.emod_nonneg mid (show (m : Int) - n ≠ 0 by omega)
              have e2 := Int.emod_lt_of_pos mid hpos
              refine ⟨((n : Int) + mid % ((m : Int) - n)).toNat, ?_, by omega, by omega⟩
              rw [IntWalk.wrap64_in _ ⟨by omega, by omega⟩]; omega
            go_wp2_with fail
            rw [hc]
            have hc64 : c < 64 := by omega
            refine (mine_do C 4 n 0 c 0 (by decide) (by decide) M).mono ?_; rintro e w7 ⟨py, B7, rfl, P7, g7, M7, gr7, F7⟩
            rw [ans_scan _ _ hn64 hc64] at P7 ⊢
            rw [(nx_scan V W (wr := 0) hn64 hc64).1, (nx_scan V W hn64 hc64).2] at M7
            have K7 := K.step gr7 F7
            have Y7 := KeepP.of P7 (fun g hg => (g7 g hg).2)
            obtain ⟨ay, cy, hay, -, -⟩ := id P7
            subst hay
            simp only [ansv]
            clear P7 g7 gr7 F7 M K
            go_wp2_with fail
            refine (mine_do C 4 ((c + 1 : Nat) : Int) 0 m 0 (by decide) (by decide) M7).mono ?_; rintro e w8 ⟨pz, B8, rfl, P8, g8, M8, gr8, F8⟩
            rw [ans_scan _ _ (show c + 1 < 64 by omega) hm64] at P8 ⊢
            have K8 := K7.step gr8 F8
            have Y8 := Y7.step gr8 F8
            obtain ⟨az, cz, haz, -, -⟩ := id P8
            subst haz
            simp only [ansv]
            have hsplit := scan_split V hc1 hc2
            have L1 := prs_length V n (c + 1 - n)
            have L2 := prs_length V (c + 1) (m + 1 - (c + 1))
            change (scan V n c).length ≤ _ at L1
            change (scan V (c + 1) m).length ≤ _ at L2
            have G8 := M8.g
            have HX := Lib.hid (And.intro K8.1 (And.intro Y8.1 P8))
            clear g8 gr8 F8 M7 M8 K7 Y7 K8 Y8 P8
            generalize scan V n m = X at *
            generalize scan V n c = Y at *
            generalize scan V (c + 1) m = Z at *
            have HL := Lib.hid (And.intro hsplit (And.intro L1 L2))
            clear hsplit L1 L2
            go_wp2_with (at_builtin; first
              | (refine wpList_appPairs rfl _ _ rfl _ Y rfl r1 _ Z rfl (HX.out.2.2.up Fa) (by have := HL.out; omega) Fa.size ?_; intro a2 c2 wb r2 fb; have Fb := Fa.own fb (row_base r1))
              | (refine wpList_appPairs rfl _ _ rfl (B := w8.heap.size) (.slice none 0 0) [] rfl ⟨rfl, .inl ⟨rfl, rfl⟩⟩ _ Y rfl HX.out.2.1 (by have := HL.out; simp; omega) (Nat.le_refl _) ?_; intro a1 c1 wa r1 fa; rw [List.nil_append] at r1; have Fa : Fr [] w8 wa := fa))
            have PX := HX.out.1.up Fb
            have PY := own_pairs r2
            rw [← HL.out.1] at PY
            rw [show X.length = Y.length + Z.length by rw [HL.out.1, List.length_append]] at PY
            refine (samePairs_true X _ _ wb PY PX).mono ?_; rintro e w9 ⟨rfl, F9⟩
            go_wp2
            go_ret
            exact ⟨rfl, (G8.trans Fb).trans F9⟩
end Go.Proofs.Ytjhgjpkiinkaeaa.Mp
