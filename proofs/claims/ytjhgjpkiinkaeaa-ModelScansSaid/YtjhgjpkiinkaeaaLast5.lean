/- The walk of ModelLast, whatever the map is made of. -/
import Derived.Test.YtjhgjpkiinkaeaaDeletes
import Derived.Test.YtjhgjpkiinkaeaaScr
namespace Go.Proofs.Ytjhgjpkiinkaeaa.Mp
open Go.RowKit Go.Proofs.Ytjhgjpkiinkaeaa.Ar Go.Proofs.Ytjhgjpkiinkaeaa.Og
set_option linter.unusedVariables false
set_option linter.unusedSimpArgs false
variable {Mo : World → Nat → List Nat → (Nat → Int) → (Nat → Int) → Prop}
/-- Where a loop that plays a row of ops on a map stands. -/
def LpAt (Mo : World → Nat → List Nat → (Nat → Int) → (Nat → Int) → Prop) (w : World) (q n : Nat) (I : Nat → (Nat → Int) → (Nat → Int) → Prop) (x : Value) (wr : World) : Prop := ∃ (i : Nat) (B : List Nat) (V W : Nat → Int), i ≤ n ∧ x = .int .i64 i ∧ Mine Mo w wr q B V W ∧ I i V W
theorem wf_i (i : Nat) (h : i ≤ 1000) : (Lit.int .i64 (i : Int)).wf = true := wf_small (by omega) (by omega)
/-- What the last op has done to a key. -/
theorem last_key {V W : Nat → Int} {k ky x t wr : Int} (h : fit k ky x t = true) {n : Nat} :
    (if (n : Int) = ky ∧ (k = 1 ∨ k = 2) then max 0 (nxV V k ky x t n) = x ∧ decide (0 ≤ nxV V k ky x t n) = (k == 1) ∧ nxW W k ky x t wr n = wr else nxV V k ky x t n = V n ∧ nxW W k ky x t wr n = W n) := by
  obtain ⟨hk, k1, k2, k3, k4⟩ := fit_key h
  have e2 : nxV V k ky x t = doV V k ky x := by unfold nxV; rw [h]; rfl
  have e3 : nxW W k ky x t wr = doW W k ky wr := by unfold nxW; rw [h]; rfl
  rw [e2, e3]
  unfold doV doW upd
  split
  · rename_i hh
    obtain ⟨rfl, h12⟩ := hh
    rcases h12 with rfl | rfl
    · have := k4 rfl
      simp; omega
    · have hx : x = 0 := by
        rw [Ro.fit23 _ _ _ _ (.inl rfl)] at h; simp at h; exact h.2.1
      simp [hx]
      decide
  · rename_i hh
    rcases hk with rfl | rfl | rfl | rfl
    · have : n ≠ ky.toNat := fun e => hh ⟨by omega, .inl rfl⟩
      simp [this]
    · have : n ≠ ky.toNat := fun e => hh ⟨by omega, .inr rfl⟩
      simp [this]
    · simp
    · simp
def Lp1 (Mo : World → Nat → List Nat → (Nat → Int) → (Nat → Int) → Prop) (w : World) (q n b : Nat) (Z : Array Value) (x : Value) (wr : World) : Prop := ∃ (i : Nat) (B : List Nat) (V W : Nat → Int), i ≤ n ∧ x = .int .i64 i ∧ Mine Mo w wr q B V W ∧ Keep wr B b (.cells Z 34 (0, 0))
def LkAt (Mo : World → Nat → List Nat → (Nat → Int) → (Nat → Int) → Prop) (w : World) (q : Nat) (B : List Nat) (V W : Nat → Int) (q2 : Nat) (B2 : List Nat) (V2 W2 : Nat → Int) (b : Nat) (Z : Array Value) (x : Value) (wr : World) : Prop := ∃ i : Nat, i ≤ 64 ∧ x = .int .i64 i ∧ Mine Mo w wr q B V W ∧ Mine Mo w wr q2 B2 V2 W2 ∧ wr.heap[b]? = some (.cells Z 34 (0, 0))
set_option maxRecDepth 100000 in
set_option maxHeartbeats 8000000 in
theorem last_true (C : MapC Mo) (os : List O) (k ky x t yr : Int) (v : Value) (w : World) (ho : OpRow w v os) (hk : (Lit.int .i64 k).wf = true) (hwr : 0 ≤ yr ∧ yr < 65536) :
    Calls Try.prog 4 #[v, .agg #[.int .i64 k, .int .i64 ky, .int .i64 x, .int .i64 t], .int .u16 yr] w fun e w' => e = .returned (.bool true) ∧ Fr [] w w' := by
  have HO := Lib.hid ho
  obtain ⟨a, cap, rfl, hl, hw, hc⟩ := ho
  have HC := Lib.hid hc
  have HW := Lib.hid hw
  clear hc hw
  unfold maxLen at hl
  have hb := Go.heap_alloc_new w (.cells #[.int .i64 k, .int .i64 ky, .int .i64 x, .int .i64 t] 34)
  have G0 := (Fr.refl [] w).alloc (.cells #[.int .i64 k, .int .i64 ky, .int .i64 x, .int .i64 t] 34)
  go_enter Try.func4, Try.ntmps4
  go_wp2_with fail
  refine (known_true C _).mono ?_; rintro e w1 ⟨rfl, F1⟩
  have hb1 := heapUp F1 hb
  have G1 := G0.trans F1
  clear hb G0 F1
  have hbs : w.heap.size = w.heap.size := rfl
  obtain ⟨c0, c1, c2, c3⟩ := Pl.cells4 hb1
  by_cases h60 : 60 < os.length
  · have g : decide ((os.length : Int) > 60) = true := by simp; omega
    clear hb1
    go_wp2
    go_ret
    exact ⟨rfl, G1⟩
  have g60 : decide ((os.length : Int) > 60) = false := by simp; omega
  have HB1 := Lib.hid hb1
  clear hb1
  go_wp2_with fail
  refine (Ro.isOp_any k ky x t _).mono ?_; rintro e w2 ⟨rfl, F2⟩
  have hb2 := heapUp F2 HB1.out
  have G2 := G1.trans F2
  clear F2 G1 HB1 c0 c1 c2 c3 g60
  cases hf : fit k ky x t with
  | false =>
    clear hb2
    go_wp2
    go_ret
    exact ⟨rfl, G2⟩
  | true =>
    have HB2 := Lib.hid hb2
    clear hb2
    go_wp2_with fail
    refine (mine_new C w _ G2).mono ?_; rintro e w3 ⟨q, B3, rfl, M3, hB3, F3⟩
    have K3 : Keep w3 B3 w.heap.size (.cells #[.int .i64 k, .int .i64 ky, .int .i64 x, .int .i64 t] 34 (0, 0)) :=
      ⟨heapUp F3 HB2.out, fun hi => by have := hB3 _ hi; have := (Array.getElem?_eq_some_iff.1 HB2.out).1; omega⟩
    clear HB2 hB3 F3 G2
    generalize w.heap.size = b0 at *
    have HF := Lib.hid hf
    clear hf
    go_wp2_with fail
    go_loopw [8] (Lp1 Mo w q os.length b0 #[.int .i64 k, .int .i64 ky, .int .i64 x, .int .i64 t]) (fun y _ => os.length - (intOf y).toNat)
    case atStart => exact ⟨0, B3, _, _, Nat.zero_le _, rfl, M3, K3⟩
    case round =>
      obtain ⟨i, B, V, W, hi, rfl, M, K⟩ := hrel
      clear M3 K3
      by_cases hlt : i < os.length
      · rcases HC.out with hz | ⟨b, off, rfl, hbb, hcell⟩
        · omega
        obtain ⟨d0, d1, d2, d3⟩ := hcell i hlt
        have e0 := cellUp M.g d0
        have e1 := cellUp M.g d1
        have e2 := cellUp M.g d2
        have e3 := cellUp M.g d3
        have hwf : wfO (nthO os i) := HW.out _ (nthO_mem hlt)
        clear hcell d0 d1 d2 d3
        go_wp2_with fail
        refine (mine_do C _ _ _ _ (i : Int) hwf (wf_i i (by omega)) M).mono ?_; rintro e w5 ⟨p5, B5, rfl, P5, g5, M5, gr5, F5⟩
        have K5 := K.step gr5 F5
        clear P5 g5 gr5 F5 M K e0 e1 e2 e3
        generalize ansv (ans V W (nthO os i).1 (nthO os i).2.1 (nthO os i).2.2.1 (nthO os i).2.2.2) p5 = val
        generalize nxV V (nthO os i).1 (nthO os i).2.1 (nthO os i).2.2.1 (nthO os i).2.2.2 = V5 at M5
        generalize nxW W (nthO os i).1 (nthO os i).2.1 (nthO os i).2.2.1 (nthO os i).2.2.2 (i : Int) = W5 at M5
        go_wp2
        exact ⟨⟨i + 1, B5, _, _, by omega, by go_num, M5, K5⟩, by simp [intOf]; omega⟩
      · obtain rfl : i = os.length := by omega
        go_wp2_with fail
        refine (C.copy q B V W _ M.mo).mono ?_; rintro e w6 ⟨q2, B6, rfl, hB6, N6, F6⟩
        have M6 := M.up C F6
        have K6 := K.up F6
        have hdis : ∀ b, b ∈ B6 → b ∉ B := fun b h6 hB => by have := hB6 b h6; have := C.lt M.mo b hB; omega
        have N6' : Mine Mo w w6 q2 B6 V W := ⟨N6, fun b h6 => Nat.le_trans M.g.size (hB6 b h6), M6.g⟩
        clear M K F6 hB6 N6
        obtain ⟨c0, c1, c2, c3⟩ := Pl.cells4 K6.1
        go_wp2_with fail
        refine (mine_do C k ky x t yr hk (wf_small (by omega) (by omega)) M6).mono ?_; rintro e w7 ⟨p7, B7, rfl, P7, g7, M7, gr7, F7⟩
        have K7 := K6.step gr7 F7
        have N7 : Mine Mo w w7 q2 B6 V W := ⟨C.kept N6'.mo F7 hdis, N6'.own, M7.g⟩
        clear P7 g7 gr7 F7 M6 K6 hdis N6' c0 c1 c2 c3
        generalize ansv (ans V W k ky x t) p7 = val
        go_wp2_with fail
        go_loopw [10] (LkAt Mo w q B7 (nxV V k ky x t) (nxW W k ky x t yr) q2 B6 V W b0 #[.int .i64 k, .int .i64 ky, .int .i64 x, .int .i64 t]) (fun y _ => 64 - (intOf y).toNat)
        case atStart => exact ⟨0, by omega, rfl, M7, N7, K7.1⟩
        case round =>
          obtain ⟨n, hn, rfl, M, N, hb⟩ := hrel
          clear M7 N7 K7
          by_cases hn64 : n < 64
          · have g : decide ((n : Int) ≤ 63) = true := by simp; omega
            have hlk := last_key (V := V) (W := W) (wr := yr) HF.out (n := n)
            by_cases hP : (n : Int) = ky ∧ (k = 1 ∨ k = 2)
            · rw [if_pos hP] at hlk
              obtain ⟨m1, m2, m3⟩ := hlk
              obtain ⟨hnk, hk12⟩ := hP
              have e1 : ((n : Int) == ky) = true := by simp [hnk]
              clear hnk
              rcases hk12 with rfl | rfl
              · replace m2 : decide (0 ≤ nxV V 1 ky x t n) = true := m2
                go_wp2_with fail
                refine (C.get q B7 _ _ n _ hn64 M.mo).mono ?_; rintro e w8 ⟨rfl, F8⟩
                have M8 := M.up C F8
                have N8 := N.up C F8
                have hb8 := heapUp F8 hb
                clear M N hb F8
                rw [m1, m2]
                go_wp2_with fail
                refine (C.get q2 B6 _ _ n _ hn64 N8.mo).mono ?_; rintro e w9 ⟨rfl, F9⟩
                have M9 := M8.up C F9
                have N9 := N8.up C F9
                have hb9 := heapUp F9 hb8
                clear M8 N8 hb8 F9
                go_wp2_with fail
                refine (C.writer q2 B6 _ _ n _ hn64 N9.mo).mono ?_; rintro e w10 ⟨rfl, F10⟩
                have M10 := M9.up C F10
                have N10 := N9.up C F10
                have hb10 := heapUp F10 hb9
                clear M9 N9 hb9 F10
                obtain ⟨c0, c1, c2, c3⟩ := Pl.cells4 hb10
                have k0 := In.cell c0
                have k1 := In.cell c1
                have k2 := In.cell c2
                have k3 := In.cell c3
                have HB10 := Lib.hid hb10
                go_wp2_with fail
                refine wp_region_in (by kernel_rfl) (by kernel_rfl) ?_
                repeat (go_big_quiet_step (fail))
                refine wpQuiet_nil ?_
                intro w11 F11
                have M11 := M10.up C F11
                have N11 := N10.up C F11
                have hb11 := heapUp F11 HB10.out
                clear M10 N10 hb10 F11 HB10 c0 c1 c2 c3 k0 k1 k2 k3
                go_wp2_with fail
                refine (C.writer q B7 _ _ n _ hn64 M11.mo).mono ?_; rintro e w12 ⟨rfl, F12⟩
                rw [m3]
                have M12 := M11.up C F12
                have N12 := N11.up C F12
                have hb12 := heapUp F12 hb11
                clear M11 N11 hb11 F12 e1
                go_wp2
                exact ⟨⟨n + 1, by omega, by go_num, M12, N12, hb12⟩, by simp [intOf]; omega⟩
              · replace m2 : decide (0 ≤ nxV V 2 ky x t n) = false := m2
                go_wp2_with fail
                refine (C.get q B7 _ _ n _ hn64 M.mo).mono ?_; rintro e w8 ⟨rfl, F8⟩
                have M8 := M.up C F8
                have N8 := N.up C F8
                have hb8 := heapUp F8 hb
                clear M N hb F8
                rw [m1, m2]
                go_wp2_with fail
                refine (C.get q2 B6 _ _ n _ hn64 N8.mo).mono ?_; rintro e w9 ⟨rfl, F9⟩
                have M9 := M8.up C F9
                have N9 := N8.up C F9
                have hb9 := heapUp F9 hb8
                clear M8 N8 hb8 F9
                go_wp2_with fail
                refine (C.writer q2 B6 _ _ n _ hn64 N9.mo).mono ?_; rintro e w10 ⟨rfl, F10⟩
                have M10 := M9.up C F10
                have N10 := N9.up C F10
                have hb10 := heapUp F10 hb9
                clear M9 N9 hb9 F10
                obtain ⟨c0, c1, c2, c3⟩ := Pl.cells4 hb10
                have k0 := In.cell c0
                have k1 := In.cell c1
                have k2 := In.cell c2
                have k3 := In.cell c3
                have HB10 := Lib.hid hb10
                go_wp2_with fail
                refine wp_region_in (by kernel_rfl) (by kernel_rfl) ?_
                repeat (go_big_quiet_step (fail))
                refine wpQuiet_nil ?_
                intro w11 F11
                have M11 := M10.up C F11
                have N11 := N10.up C F11
                have hb11 := heapUp F11 HB10.out
                clear M10 N10 hb10 F11 HB10 c0 c1 c2 c3 k0 k1 k2 k3
                go_wp2_with fail
                refine (C.writer q B7 _ _ n _ hn64 M11.mo).mono ?_; rintro e w12 ⟨rfl, F12⟩
                rw [m3]
                have M12 := M11.up C F12
                have N12 := N11.up C F12
                have hb12 := heapUp F12 hb11
                clear M11 N11 hb11 F12 e1
                go_wp2
                exact ⟨⟨n + 1, by omega, by go_num, M12, N12, hb12⟩, by simp [intOf]; omega⟩
            · rw [if_neg hP] at hlk
              obtain ⟨m1, m3⟩ := hlk
              have hcase : ((n : Int) == ky) = false ∨ (((n : Int) == ky) = true ∧ (k == 1) = false ∧ (k == 2) = false) := by
                by_cases hnk : (n : Int) = ky
                · refine .inr ⟨by simp [hnk], ?_, ?_⟩
                  · simp; exact fun h => hP ⟨hnk, .inl h⟩
                  · simp; exact fun h => hP ⟨hnk, .inr h⟩
                · exact .inl (by simp [hnk])
              clear hP
              rcases hcase with g1 | ⟨g1, g2, g3⟩
              · skip
                go_wp2_with fail
                refine (C.get q B7 _ _ n _ hn64 M.mo).mono ?_; rintro e w8 ⟨rfl, F8⟩
                have M8 := M.up C F8
                have N8 := N.up C F8
                have hb8 := heapUp F8 hb
                clear M N hb F8
                rw [m1]
                go_wp2_with fail
                refine (C.get q2 B6 _ _ n _ hn64 N8.mo).mono ?_; rintro e w9 ⟨rfl, F9⟩
                have M9 := M8.up C F9
                have N9 := N8.up C F9
                have hb9 := heapUp F9 hb8
                clear M8 N8 hb8 F9
                go_wp2_with fail
                refine (C.writer q2 B6 _ _ n _ hn64 N9.mo).mono ?_; rintro e w10 ⟨rfl, F10⟩
                have M10 := M9.up C F10
                have N10 := N9.up C F10
                have hb10 := heapUp F10 hb9
                clear M9 N9 hb9 F10
                obtain ⟨c0, c1, c2, c3⟩ := Pl.cells4 hb10
                go_wp2_with fail
                refine (C.writer q B7 _ _ n _ hn64 M10.mo).mono ?_; rintro e w12 ⟨rfl, F12⟩
                rw [m3]
                have M12 := M10.up C F12
                have N12 := N10.up C F12
                have hb12 := heapUp F12 hb10
                clear M10 N10 hb10 F12 g1 c0 c1 c2 c3
                go_wp2
                exact ⟨⟨n + 1, by omega, by go_num, M12, N12, hb12⟩, by simp [intOf]; omega⟩
              · skip
                go_wp2_with fail
                refine (C.get q B7 _ _ n _ hn64 M.mo).mono ?_; rintro e w8 ⟨rfl, F8⟩
                have M8 := M.up C F8
                have N8 := N.up C F8
                have hb8 := heapUp F8 hb
                clear M N hb F8
                rw [m1]
                go_wp2_with fail
                refine (C.get q2 B6 _ _ n _ hn64 N8.mo).mono ?_; rintro e w9 ⟨rfl, F9⟩
                have M9 := M8.up C F9
                have N9 := N8.up C F9
                have hb9 := heapUp F9 hb8
                clear M8 N8 hb8 F9
                go_wp2_with fail
                refine (C.writer q2 B6 _ _ n _ hn64 N9.mo).mono ?_; rintro e w10 ⟨rfl, F10⟩
                have M10 := M9.up C F10
                have N10 := N9.up C F10
                have hb10 := heapUp F10 hb9
                clear M9 N9 hb9 F10
                obtain ⟨c0, c1, c2, c3⟩ := Pl.cells4 hb10
                go_wp2_with fail
                refine (C.writer q B7 _ _ n _ hn64 M10.mo).mono ?_; rintro e w12 ⟨rfl, F12⟩
                rw [m3]
                have M12 := M10.up C F12
                have N12 := N10.up C F12
                have hb12 := heapUp F12 hb10
                clear M10 N10 hb10 F12 g1 g2 g3 c0 c1 c2 c3
                go_wp2
                exact ⟨⟨n + 1, by omega, by go_num, M12, N12, hb12⟩, by simp [intOf]; omega⟩
          · obtain rfl : n = 64 := by omega
            have g : decide (((64 : Nat) : Int) ≤ 63) = false := by decide
            go_wp2
            go_ret
            exact ⟨rfl, M.g⟩
end Go.Proofs.Ytjhgjpkiinkaeaa.Mp
