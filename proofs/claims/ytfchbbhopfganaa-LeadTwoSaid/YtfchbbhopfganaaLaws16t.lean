/- Layer 16: two neighbours, each of them led, step by step in whatever turns. -/
import Derived.Test.YtfchbbhopfganaaLv4
import Derived.Test.YtfchbbhopfganaaLe3
import Derived.Test.YtfchbbhopfganaaBools
namespace Go.Proofs.Ytfchbbhopfganaa.Le
open Go.RowKit Go.Proofs.Ytfchbbhopfganaa.Ar Go.Proofs.Ytfchbbhopfganaa.Mx
set_option linter.unusedVariables false
set_option linter.unusedSimpArgs false
set_option maxRecDepth 100000
def sT0 : St := (((Pl.begun 1 3 600).poke 10 200).poke 102 400).poke 200 9
def sT (more : Bool) : St := if more = true then (sT0.poke 202 600).poke 300 20 else sT0
theorem sTl : (sT true).l.length = 600 ∧ (sT false).l.length = 600 := by decide +kernel
theorem sTv : ∀ m : Bool, Fw (sT m) 100 2 = 400 ∧ Fw (sT m) 200 2 = (if m = true then 600 else 0) ∧ Fw (sT m) 300 2 = 0 ∧ Fw (sT m) 100 3 = 0 ∧ Fw (sT m) 200 3 = 0 ∧ Fw (sT m) 300 3 = 0 ∧ Fw (sT m) 200 4 = 0 := by decide +kernel
theorem Sy.new (two more : Bool) : Sy two more (sT more) := by
  obtain ⟨v1, v2, v3, v4, v5, v6, v7⟩ := sTv more
  have hl : ((sT more).l.length : Int) = 600 := by cases more; exact congrArg _ sTl.2; exact congrArg _ sTl.1
  have v2' : Fw (sT more) 200 2 = 0 ∨ Fw (sT more) 200 2 = 600 := by rw [v2]; cases more <;> simp
  refine ⟨⟨by omega, ?_, ?_, ?_, ?_⟩, .inl v4, .inl v5, .inl v6, fun k => by omega, .inl v7, by omega, ?_, by omega⟩
  · rintro a (rfl | rfl | rfl) <;> omega
  · rintro a b (rfl | rfl | rfl) (rfl | rfl | rfl) h <;> omega
  · rintro a (rfl | rfl | rfl)
    · exact .inl v4
    · exact .inl v5
    · exact .inl v6
  · rintro a (rfl | rfl | rfl)
    · exact ⟨by omega, by omega, .inr (.inr (.inl (by omega)))⟩
    · refine ⟨by omega, by omega, ?_⟩
      rcases v2' with k | k
      · left; omega
      · exact .inr (.inr (.inr (by omega)))
    · exact ⟨by omega, by omega, .inl (by omega)⟩
  · rw [v2]; unfold bI; cases more <;> decide
theorem T2.new (one two more : Bool) : T2 two more (Lx.new 100 one) (Lx.new 200 two) (sT more) := ⟨Sy.new two more, LdI.new k1 one _, LdI.new k2 two _, rfl, rfl, rfl⟩
theorem newA (one : Bool) (w : World) : Calls Try.prog 10 #[.agg #[.int .i64 1, .int .i64 3, .int .i64 600, .int .i64 1000], .int .i64 100, .bool one] w fun e w' => ∃ b, e = .returned (.pointer (some ⟨b, 0, none⟩)) ∧ w.heap.size ≤ b ∧ LeIs w' b (Lx.new 100 one) ∧ Fr [] w w' := new_any ⟨1, 3, 600, 1000⟩ 100 one w
theorem newB (two : Bool) (w : World) : Calls Try.prog 10 #[.agg #[.int .i64 1, .int .i64 3, .int .i64 600, .int .i64 1000], .int .i64 200, .bool two] w fun e w' => ∃ b, e = .returned (.pointer (some ⟨b, 0, none⟩)) ∧ w.heap.size ≤ b ∧ LeIs w' b (Lx.new 200 two) ∧ Fr [] w w' := new_any ⟨1, 3, 600, 1000⟩ 200 two w
def TwR (W : World) (b1 b2 p q : Nat) (two more : Bool) (n : Nat) (iv : Value) (wr : World) : Prop := ∃ (i : Nat) (x y : Lx) (s : St), iv = .int .i64 (i : Nat) ∧ i ≤ n ∧ T2 two more x y s ∧ LeIs wr b1 x ∧ LeIs wr b2 y ∧ Ar wr p q s ∧ Fr [b1, b2, p, q] W wr
def TwN (W : World) (b1 b2 p q : Nat) (two more : Bool) (iv : Value) (wr : World) : Prop := ∃ (i : Nat) (x y : Lx) (s : St), iv = .int .i64 (i : Nat) ∧ i ≤ 40 ∧ (remL x s ≤ 13 - i ∧ remL y s ≤ 13 - i) ∧ T2 two more x y s ∧ LeIs wr b1 x ∧ LeIs wr b2 y ∧ Ar wr p q s ∧ Fr [b1, b2, p, q] W wr
set_option maxHeartbeats 6400000 in
theorem two_any (one two : Bool) (v0 : Value) (n : Nat) (B : Nat → Bool) (more : Bool) (w : World) (hS : Law.Bools w v0 n B) : Calls Try.prog 3 #[.bool one, .bool two, v0, .bool more] w fun e w' => e = .returned (.bool true) ∧ Fr [] w w' := by
  obtain ⟨ar, cap, rfl, hm1, hS⟩ := hS
  have HK := Lib.hid (known_true w)
  have HR := Lib.hid hS
  have isE := Er.isE
  clear hS
  go_enter Try.func3, Try.ntmps3
  go_wp2_with fail
  refine HK.out.mono ?_; rintro e w0 ⟨rfl, G0⟩
  clear HK
  by_cases h30 : n ≤ 40
  case neg =>
    have g1 : decide ((n : Int) > 40) = true := by simp; omega
    have g2 : decide (n > 40) = true := by simp; omega
    clear h30
    go_wp2_with fail
    go_ret
    exact ⟨rfl, G0⟩
  have g1 : decide ((n : Int) > 40) = false := by simp; omega
  have g2 : decide (n > 40) = false := by simp; omega
  have g3 : decide ((40 : Int) < (n : Int)) = false := by simp; omega
  go_wp2_with fail
  refine (Pl.conf_any 1 3 600 _).mono ?_; rintro e w1 ⟨rfl, F1⟩
  have G := (G0.trans F1).alloc (.cells #[.int .i64 1, .int .i64 3, .int .i64 600, .int .i64 1000] 25)
  have oc := Ob.new w1 25 #[.int .i64 1, .int .i64 3, .int .i64 600, .int .i64 1000]
  have hcw := oc.lt
  have hw1' := (G0.trans F1).size
  obtain ⟨c0, c1, c2, c3⟩ := Pl.cells4 oc
  clear F1 G0
  go_wp2_with fail
  refine (Pl.make_yes 1 3 600 1000 (by decide) _).mono ?_; rintro e w2 ⟨p, q, rfl, hp, hq, A, F2⟩
  rw [sizeA] at hp hq
  replace oc := oc.up F2
  have hA2 := A.lt
  replace G := G.trans F2
  clear F2 c0 c1 c2 c3
  generalize hbc : w1.heap.size = bc at *
  have hcl := oc.lt
  have hG := G.size
  have HN0 := Lib.hid (show (bc ≠ p ∧ bc ≠ q) ∧ (w.heap.size ≤ p ∧ w.heap.size ≤ q ∧ w.heap.size ≤ bc) by omega)
  have HRG := Lib.hid (show (p < w2.heap.size ∧ q < w2.heap.size) by omega)
  have HG2 := Lib.hid G
  have HO2 := Lib.hid oc
  clear hcw hw1' hp hq hA2 hcl hG hbc G
  obtain ⟨c0, c1, c2, c3⟩ := Pl.cells4 oc
  clear oc
  go_wp2_with fail
  refine (Pl.head_any 1 3 600 1000 (by decide) (by decide) _).mono ?_; rintro e w3 ⟨rfl, F3⟩
  replace A := A.kept F3 (by simp) (by simp)
  have HG3 := Lib.hid (HG2.out.trans F3)
  have HO3 := Lib.hid (HO2.out.up F3)
  clear F3 c0 c1 c2 c3 HG2 HO2
  go_wp2_with fail
  refine (next_any 100 false _).mono ?_; rintro e _ ⟨rfl, rfl⟩
  rw [show nextW 100 false = 200 by decide]
  first | rw [show (3 + 1 + 4 : Int) = 8 by decide] | skip
  go_wp2_with fail
  refine (poke_any _ p q _ _ _ A).mono ?_; rintro e w4 ⟨rfl, A4, F4⟩
  have HG4 := Lib.hid (HG3.out.own F4 (by simp; exact HN0.out.2.2.1))
  have HO4 := Lib.hid (HO3.out.kept F4 (by simp; exact HN0.out.1.2))
  clear A F4 HG3 HO3
  have A := A4
  have HG3 := HG4
  have HO3 := HO4
  clear A4 HG4 HO4
  go_wp2_with fail
  refine (next_any 200 false _).mono ?_; rintro e _ ⟨rfl, rfl⟩
  rw [show nextW 200 false = 400 by decide]
  go_wp2_with fail
  refine (poke_any _ p q _ _ _ A).mono ?_; rintro e w4 ⟨rfl, A4, F4⟩
  have HG4 := Lib.hid (HG3.out.own F4 (by simp; exact HN0.out.2.2.1))
  have HO4 := Lib.hid (HO3.out.kept F4 (by simp; exact HN0.out.1.2))
  clear A F4 HG3 HO3
  have A := A4
  have HG3 := HG4
  have HO3 := HO4
  clear A4 HG4 HO4
  go_wp2_with fail
  refine (poke_any _ p q _ _ _ A).mono ?_; rintro e w4 ⟨rfl, A4, F4⟩
  have HG4 := Lib.hid (HG3.out.own F4 (by simp; exact HN0.out.2.2.1))
  have HO4 := Lib.hid (HO3.out.kept F4 (by simp; exact HN0.out.1.2))
  clear A F4 HG3 HO3
  have A := A4
  have HG3 := HG4
  have HO3 := HO4
  clear A4 HG4 HO4
  obtain ⟨mo, hmo⟩ : ∃ mo : Bool, mo = more := ⟨_, rfl⟩
  have HMO := Lib.hid hmo
  clear hmo
  cases more
  case' true =>
    go_wp2_with fail
    refine (next_any 300 false _).mono ?_; rintro e _ ⟨rfl, rfl⟩
    rw [show nextW 300 false = 600 by decide]
    go_wp2_with fail
    refine (poke_any _ p q _ _ _ A).mono ?_; rintro e w4 ⟨rfl, A4, F4⟩
    have HG4 := Lib.hid (HG3.out.own F4 (by simp; exact HN0.out.2.2.1))
    have HO4 := Lib.hid (HO3.out.kept F4 (by simp; exact HN0.out.1.2))
    clear A F4 HG3 HO3
    have A := A4
    have HG3 := HG4
    have HO3 := HO4
    clear A4 HG4 HO4
    go_wp2_with fail
    refine (poke_any _ p q _ _ _ A).mono ?_; rintro e w4 ⟨rfl, A4, F4⟩
    have HG4 := Lib.hid (HG3.out.own F4 (by simp; exact HN0.out.2.2.1))
    have HO4 := Lib.hid (HO3.out.kept F4 (by simp; exact HN0.out.1.2))
    clear A F4 HG3 HO3
    have A := A4
    have HG3 := HG4
    have HO3 := HO4
    clear A4 HG4 HO4
    go_wp2_with fail
    have A' : Ar w4 p q (sT mo) := by rw [HMO.out]; exact A
  case' false =>
    go_wp2_with fail
    have A' : Ar w4 p q (sT mo) := by rw [HMO.out]; exact A
  all_goals (
    clear A
    have A := A'
    clear A'
    have HA := Lib.hid A
    have hO := HO3.out.lt
    have hAl := A.lt
    have hG := HG3.out.size
    obtain ⟨c0, c1, c2, c3⟩ := Pl.cells4 HO3.out
    clear A
    refine wp_region_free (by kernel_rfl) ?_
    refine any_envL [] w4 #[true, true, true, true, true, true, false, false] 6 2 rfl ?_
    refine envT_pass [true, true, false, true, true, false, false, false] 2 (n := 168) (listed' := #[true, true, false, true, true, false, false, false]) rfl (by kernel_rfl) (by kernel_rfl) (by kernel_rfl) (by kernel_rfl) (by kernel_rfl) rfl (by kernel_rfl) (fun _ _ d _ _ h => by cases d <;> exact h) ((Fr.refl _ w4).drew) ?_
    apply Exists.intro
    refine ⟨fun wf Ff => ?_, ?_⟩
    · have k0 := In.cell (Ff.cell c0 (by simp))
      have k1 := In.cell (Ff.cell c1 (by simp))
      have k2 := In.cell (Ff.cell c2 (by simp))
      have k3 := In.cell (Ff.cell c3 (by simp))
      simp only [sel]
      repeat (go_big_quiet_step (fail))
      exact wpQuiet_nil rfl
    refine envL_one 2 (by kernel_rfl) rfl rfl (fun w5' F4 => ?_)
    have D4 := (Fr.refl [] w4).drew.trans F4
    clear F4
    go_wp2_with fail
    refine (newA one _).mono ?_; rintro e w5 ⟨b1, rfl, hb1, X1, F5⟩
    have D5 := D4.trans F5
    have hs4 := D4.size
    clear D4 F5
    go_wp2_with fail
    refine nx_normal ⟨D5, ?_⟩
    refine envL_one 5 (by kernel_rfl) rfl rfl (fun w6 F6 => ?_)
    have D6 := D5.trans F6
    have X2 := X1.up F6
    have hs5 := F6.size
    clear F6
    go_wp2_with fail
    refine (newB two _).mono ?_; rintro e w7 ⟨b2, rfl, hb2, Y1, F7⟩
    have D7 := D6.trans F7
    have X3 := X2.up F7
    have hx := X1.lt
    clear X1 X2 D6
    go_wp2_with fail
    refine nx_normal ⟨D7, ?_⟩
    refine envL_tail (k := 6) rfl (by kernel_rfl) (fun w8 F8 => ?_)
    have D8 := D7.trans F8
    have X := X3.up F8
    have Y := Y1.up F8
    have A8 := HA.out.kept D8 (by simp) (by simp)
    have hs3 := D5.size
    have hn := HN0.out
    have HN := Lib.hid (show (b1 ≠ p ∧ b1 ≠ q ∧ b1 ≠ b2) ∧ (b2 ≠ p ∧ b2 ≠ q) ∧ (w.heap.size ≤ b1 ∧ w.heap.size ≤ b2 ∧ w.heap.size ≤ p ∧ w.heap.size ≤ q) by omega)
    have HG := Lib.hid (HG3.out.trans D8)
    have HL := Lib.hid (And.intro h30 hm1)
    clear HG3 HO3 HN0 HRG hO hAl hG c0 c1 c2 c3 hs3 hs4 hs5 hb1 hb2 hx hn D5 D7 D8 F7 F8 X3 Y1 hm1 HA
    have HT := Lib.hid (T2.new one two mo)
    generalize sT mo = sm at *
    go_wp2_with fail
    go_loopw [14] (TwR w8 b1 b2 p q two mo n) (fun v _ => 50 - (intOf v).toNat)
    case atStart => exact ⟨0, _, _, _, rfl, by omega, HT.out, X, Y, A8, Fr.refl _ _⟩
    · skip
      clear HT X Y A8
      obtain ⟨i, x, y, s, rfl, hin, hB, X2, Y2, A2, F2⟩ := hrel
      have HB := Lib.hid hB
      have HF := Lib.hid (And.intro X2 (And.intro Y2 (And.intro A2 F2)))
      clear hB X2 Y2 A2 F2
      by_cases hi : i < n
      case pos =>
        have q4 : decide ((i : Int) < (n : Int)) = true := by simp; omega
        obtain h0 | ⟨b0, o0, rfl, hb0, hc0⟩ := HR.out
        · omega
        have x1 := ((HG.out.own HF.out.2.2.2 (by simp; exact HN.out.2.2)).cell (hc0 i hi) (by simp))
        have HS1 := Lib.hid (lstep_any HB.out.hx.ln HF.out.1 HF.out.2.2.1 ⟨HN.out.1.1, HN.out.1.2.1⟩)
        have HS2 := Lib.hid (lstep_any HB.out.hy.ln HF.out.2.1 HF.out.2.2.1 HN.out.2.1)
        have hlm := HL.out.2
        have hh30 := HL.out.1
        clear hc0
        cases hBi : B i
        case true =>
          rw [hBi] at x1
          go_wp2_with fail
          refine HS1.out.mono ?_; rintro e w9 ⟨rfl, X3, A3, F3⟩
          have Y3 := HF.out.2.1.kept F3 (by simp; exact ⟨HN.out.1.2.2.symm, HN.out.2.1⟩)
          have F4 := HF.out.2.2.2.trans (F3.mono (by simp))
          go_wp2_with fail
          go_roundw
          case rel => exact ⟨i + 1, _, _, _, by simp, by omega, HB.out.sx.1, X3, Y3, A3, F4⟩
          case measure => simp [intOf]; omega
        case false =>
          rw [hBi] at x1
          go_wp2_with fail
          refine HS2.out.mono ?_; rintro e w9 ⟨rfl, Y3, A3, F3⟩
          have X3 := HF.out.1.kept F3 (by simp; exact ⟨HN.out.1.2.2, HN.out.1.1, HN.out.1.2.1⟩)
          have F4 := HF.out.2.2.2.trans (F3.mono (by simp))
          go_wp2_with fail
          go_roundw
          case rel => exact ⟨i + 1, _, _, _, by simp, by omega, HB.out.sy.1, X3, Y3, A3, F4⟩
          case measure => simp [intOf]; omega
      have q4 : decide ((i : Int) < (n : Int)) = false := by simp; omega
      go_wp2_with fail
      have HG9 := Lib.hid (HG.out.own HF.out.2.2.2 (by simp; exact HN.out.2.2))
      obtain ⟨X9, Y9, A9, -⟩ := HF.out
      have hB9 := HB.out
      clear HF HG HB HR hin hi q4
      go_loopw [15] (TwN wr b1 b2 p q two mo) (fun v _ => 50 - (intOf v).toNat)
      case atStart => exact ⟨0, x, y, s, rfl, by omega, ⟨rem_le _ _, rem_le _ _⟩, hB9, X9, Y9, A9, Fr.refl _ _⟩
      · skip
        clear hB9 X9 Y9 A9
        obtain ⟨j, x, y, s, rfl, hj, hxy, hB, X2, Y2, A2, F2⟩ := hrel
        have HB := Lib.hid hB
        have HM := Lib.hid hxy
        have HF := Lib.hid (And.intro X2 (And.intro Y2 (And.intro A2 F2)))
        clear hB hxy X2 Y2 A2 F2
        by_cases hj9 : j < 40
        case pos =>
          have q4 : decide ((j : Int) < 40) = true := by simp; omega
          have HS1 := Lib.hid (lstep_any HB.out.hx.ln HF.out.1 HF.out.2.2.1 ⟨HN.out.1.1, HN.out.1.2.1⟩)
          go_wp2_with fail
          refine HS1.out.mono ?_; rintro e w9 ⟨rfl, X3, A3, F3⟩
          have hs1 := HB.out.sx
          have Y3 := HF.out.2.1.kept F3 (by simp; exact ⟨HN.out.1.2.2.symm, HN.out.2.1⟩)
          have F4 := HF.out.2.2.2.trans (F3.mono (by simp))
          have HS2 := Lib.hid (lstep_any hs1.1.hy.ln Y3 A3 HN.out.2.1)
          have HX3 := Lib.hid (And.intro X3 F4)
          have hs2 := hs1.1.sy
          have HZ := Lib.hid (And.intro hs1 hs2)
          clear X3 A3 F3 Y3 F4 hs1 hs2
          go_wp2_with fail
          refine HS2.out.mono ?_; rintro e w10 ⟨rfl, Y5, A5, F5⟩
          have X5 := HX3.out.1.kept F5 (by simp; exact ⟨HN.out.1.2.2, HN.out.1.1, HN.out.1.2.1⟩)
          have F6 := HX3.out.2.trans (F5.mono (by simp))
          go_wp2_with fail
          go_roundw
          case rel =>
            refine ⟨j + 1, _, _, _, by simp, by omega, ⟨?_, ?_⟩, HZ.out.2.1, X5, Y5, A5, F6⟩
            · have h1 := HZ.out.1.2.1; have h2 := HZ.out.2.2.2; have := HM.out.1; omega
            · have h1 := HZ.out.1.2.2; have h2 := HZ.out.2.2.1; have := HM.out.2; omega
          case measure => simp [intOf]; omega
        have q4 : decide ((j : Int) < 40) = false := by simp; omega
        have lx : x.ln = 11 := rem0 HB.out.hx (by have := HM.out.1; omega)
        have ly : y.ln = 11 := rem0 HB.out.hy (by have := HM.out.2; omega)
        have HE := Lib.hid (HB.out.end_ lx ly)
        have HV1 := Lib.hid (fun wz (Fz : Fr [] wr wz) => lchk_any (HF.out.1.up Fz))
        have HV2 := Lib.hid (fun wz (Fz : Fr [] wr wz) => lchk_any (HF.out.2.1.up Fz))
        have HA9 := Lib.hid HF.out.2.2.1
        have HGG := Lib.hid (HG9.out.own HF.out.2.2.2 (by simp; exact HN.out.2.2))
        clear HF HB HM lx ly HG9 hj9 hj
        generalize x.rl = r1 at *
        generalize x.rm = r2 at *
        generalize x.ra = r3 at *
        generalize y.rl = r4 at *
        generalize y.rm = r5 at *
        generalize y.ra = r6 at *
        obtain ⟨rfl, p1, hE⟩ := HE.out
        have hm := HMO.out
        clear HE HMO
        rcases hE with ⟨rfl, rfl, rfl, rfl, p2⟩ | ⟨rfl, rfl, rfl, p2, hE⟩
        · have P := Lib.hid (show peek s.l 103 = 100 ∧ peek s.l 203 = 100 from ⟨p1, p2⟩)
          clear p1 p2 hm
          go_wp2_with fail
          refine (HV1.out _ (Fr.refl _ _)).mono ?_; rintro e _ ⟨rfl, rfl⟩
          go_wp2_with fail
          refine (HV2.out _ (Fr.refl _ _)).mono ?_; rintro e _ ⟨rfl, rfl⟩
          go_wp2_with fail
          refine (peek_any _ p q _ _ HA9.out).mono ?_; rintro e _ ⟨rfl, rfl⟩
          rw [P.out.1]
          go_wp2_with fail
          refine (peek_any _ p q _ _ HA9.out).mono ?_; rintro e _ ⟨rfl, rfl⟩
          rw [P.out.2]
          go_wp2_with fail
          go_ret
          exact ⟨rfl, HGG.out⟩
        · rcases hE with ⟨rfl, hmo, rfl, p3, rfl⟩ | ⟨rfl, rfl⟩
          · first
              | (exfalso; rw [hmo] at hm; exact absurd hm (by decide))
              | (have P := Lib.hid (show peek s.l 103 = 100 ∧ peek s.l 203 = 200 ∧ peek s.l 303 = 200 from ⟨p1, p2, p3⟩)
                 clear p1 p2 p3 hm hmo
                 go_wp2_with fail
                 refine (HV1.out _ (Fr.refl _ _)).mono ?_; rintro e _ ⟨rfl, rfl⟩
                 go_wp2_with fail
                 refine (HV2.out _ (Fr.refl _ _)).mono ?_; rintro e _ ⟨rfl, rfl⟩
                 go_wp2_with fail
                 refine (peek_any _ p q _ _ HA9.out).mono ?_; rintro e _ ⟨rfl, rfl⟩
                 rw [P.out.1]
                 go_wp2_with fail
                 refine (peek_any _ p q _ _ HA9.out).mono ?_; rintro e _ ⟨rfl, rfl⟩
                 rw [P.out.2.1]
                 go_wp2_with fail
                 refine (peek_any _ p q _ _ HA9.out).mono ?_; rintro e _ ⟨rfl, rfl⟩
                 rw [P.out.2.2]
                 go_wp2_with fail
                 go_ret
                 exact ⟨rfl, HGG.out⟩)
          · have P := Lib.hid (show peek s.l 103 = 100 ∧ peek s.l 203 = 200 from ⟨p1, p2⟩)
            subst hm
            have HV2 := Lib.hid (show ∀ wz, Fr [] wr wz → Calls Try.prog 12 #[.pointer (some ⟨b2, 0, none⟩)] wz (PostC wz 200 0 _) from HV2.out)
            clear p1 p2
            go_wp2_with fail
            refine (HV1.out _ (Fr.refl _ _)).mono ?_; rintro e _ ⟨rfl, rfl⟩
            go_wp2_with fail
            refine (HV2.out _ (Fr.refl _ _)).mono ?_; rintro e _ ⟨rfl, rfl⟩
            first | rw [show bI true = 300 from rfl] | rw [show bI false = 0 from rfl]
            go_wp2_with fail
            refine (peek_any _ p q _ _ HA9.out).mono ?_; rintro e _ ⟨rfl, rfl⟩
            rw [P.out.1]
            go_wp2_with fail
            refine (peek_any _ p q _ _ HA9.out).mono ?_; rintro e _ ⟨rfl, rfl⟩
            rw [P.out.2]
            go_wp2_with fail
            go_ret
            exact ⟨rfl, HGG.out⟩)
end Go.Proofs.Ytfchbbhopfganaa.Le
