/- Package op: whether all ops of a script may be. -/
import Derived.Test.YtedenkghacbdeaaDoorScr
namespace Go.Proofs.YtedenkghacbdeaaDoor.Og
open Go.RowKit Go.Maps Go.Proofs.YtedenkghacbdeaaDoor.Ar
set_option linter.unusedVariables false
set_option linter.unusedSimpArgs false
def fitO (o : O) : Bool := fit o.1 o.2.1 o.2.2.1 o.2.2.2
def fitR (os : List O) : Bool := os.all fitO
def AFAt (w : World) (b : Nat) (rs : List (List O)) (x : Value) (wr : World) : Prop := ∃ n : Nat, n ≤ rs.length ∧ x = .int .i64 n ∧ Slots wr b ∧ Fr [] w wr ∧ ∀ i, i < n → fitR (nthR rs i) = true
def FRAt (w : World) (b : Nat) (os : List O) (x : Value) (wr : World) : Prop := ∃ n : Nat, n ≤ os.length ∧ x = .int .i64 n ∧ Slots wr b ∧ Fr [] w wr ∧ ∀ i, i < n → fitO (nthO os i) = true
set_option maxHeartbeats 3200000 in
theorem allFit_any (rs : List (List O)) (v : Value) (w : World) (h : OpRows w v rs) : Calls Tryd.prog 27 #[v] w fun e w' => e = .returned (.bool (rs.all fitR)) ∧ Fr [] w w' := by
  obtain ⟨a, cap, x, rfl, hl, hc, hr⟩ := h
  have HC := Lib.hid hc
  have HR := Lib.hid hr
  clear hc hr
  unfold maxLen at hl
  go_enter Tryd.func27, Tryd.ntmps27
  go_wp2_with fail
  refine (slots_any _).mono ?_; rintro e w1 ⟨b, rfl, hb, hS, F1⟩
  go_wp2_with fail
  go_loopw [11] (AFAt w b rs) (fun x _ => rs.length - (intOf x).toNat)
  case atStart => exact ⟨0, Nat.zero_le _, rfl, hS, F1, by omega⟩
  case round =>
    obtain ⟨n, hn, rfl, hSr, Fr1, hi⟩ := hrel
    clear hS F1
    by_cases hlt : n < rs.length
    · rcases HC.out with hz | ⟨bb, off, rfl, hbb, hcell⟩
      · omega
      have d0 := cell_up Fr1 (hcell n hlt)
      obtain ⟨a2, cap2, hxe, hl2, hw2, hc2⟩ := (HR.out n hlt).up Fr1
      rw [hxe] at d0
      unfold maxLen at hl2
      have HC2 := Lib.hid hc2
      clear hcell hc2 HC
      go_wp2_with fail
      go_loopw [17] (FRAt wr b (nthR rs n)) (fun x _ => (nthR rs n).length - (intOf x).toNat)
      case atStart => exact ⟨0, Nat.zero_le _, rfl, hSr, Fr.refl _ _, by omega⟩
      case round =>
        obtain ⟨m, hm, rfl, hSq, Fq, hj⟩ := hrel
        rename_i wq
        by_cases hlt2 : m < (nthR rs n).length
        · rcases HC2.out with hz | ⟨b2, off2, rfl, hb2, hcell2⟩
          · omega
          obtain ⟨c0, c1, c2, c3⟩ := hcell2 m hlt2
          have d0 := cell_up Fq c0
          have d1 := cell_up Fq c1
          have d2 := cell_up Fq c2
          have d3 := cell_up Fq c3
          have hwf : wfO (nthO (nthR rs n) m) := hw2 _ (nthO_mem hlt2)
          clear hcell2 c0 c1 c2 c3
          go_wp2_with fail
          have G := (Fr.refl [] wr).alloc (.cells #[.int .i64 (nthO (nthR rs n) m).1, .int .i64 (nthO (nthR rs n) m).2.1, .int .i64 (nthO (nthR rs n) m).2.2.1, .int .i64 (nthO (nthR rs n) m).2.2.2] 23)
          have hSa := SMap.kept hSq G (by simp)
          refine (fits_any _ _ _ _ b _ hwf hSa).mono ?_; rintro e wz ⟨rfl, Fz⟩
          have hSz : Slots wz b := SMap.kept hSa Fz (by simp)
          have Fqz := (Fq.trans G).trans Fz
          clear hSa hSq d0 d1 d2 d3 Fz G
          cases hg : fitO (nthO (nthR rs n) m) with
          | false =>
            have hg' := hg
            unfold fitO at hg'
            rw [hg']
            go_wp2
            go_ret
            exact ⟨by rw [not_all (nthR_mem hlt) (not_all (nthO_mem hlt2) hg)]; rfl, Fr1.trans Fqz⟩
          | true =>
            have hg' := hg
            unfold fitO at hg'
            rw [hg']
            go_wp2
            go_roundw
            case rel =>
              refine ⟨m + 1, by omega, by go_num, hSz, Fqz, fun i hi' => ?_⟩
              by_cases hin : i = m
              · rw [hin]; exact hg
              · exact hj i (by omega)
            case measure => simp [intOf]; omega
        · obtain rfl : m = (nthR rs n).length := by omega
          go_wp2
          go_roundw
          case rel =>
            refine ⟨n + 1, by omega, by go_num, hSq, Fr1.trans Fq, fun i hi' => ?_⟩
            by_cases hin : i = n
            · rw [hin]; exact all_nthO hj
            · exact hi i (by omega)
          case measure => simp [intOf]; omega
    · obtain rfl : n = rs.length := by omega
      go_wp2
      go_ret
      exact ⟨by rw [all_nthR hi]; rfl, Fr1⟩
end Go.Proofs.YtedenkghacbdeaaDoor.Og
