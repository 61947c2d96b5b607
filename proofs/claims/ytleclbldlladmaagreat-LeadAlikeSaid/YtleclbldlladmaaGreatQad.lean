/- Parts. -/
import Derived.Test.YtleclbldlladmaaGreatQab
import Derived.Test.YtleclbldlladmaaGreatQac
import Derived.Test.YtleclbldlladmaaGreatQaa
set_option linter.unusedVariables false
set_option linter.unusedSimpArgs false
set_option maxRecDepth 100000
namespace Go.Proofs.YtleclbldlladmaaGreat.Le_u
open Go.RowKit Go.Maps Go.Proofs.YtleclbldlladmaaGreat.Ar Go.Proofs.YtleclbldlladmaaGreat.Og Go.Proofs.YtleclbldlladmaaGreat.Ref Go.Proofs.YtleclbldlladmaaGreat.Mx Go.Proofs.YtleclbldlladmaaGreat.Wd
def AlR (W : World) (b1 b2 p q : Nat) (K : Int → Prop) (k : Int) (iv : Value) (wr : World) : Prop := ∃ (i : Nat) (x y : Lx_u) (s : St), iv = .int .i64 (i : Nat) ∧ i ≤ 60 ∧ AlI K k x y s ∧ LeIs wr b1 x ∧ LeIs wr b2 y ∧ Ar wr p q s ∧ Fr [b1, b2, p, q] W wr
def AlX (W : World) (b1 b2 p q : Nat) (K : Int → Prop) (k : Int) (iv : Value) (wr : World) : Prop := ∃ (i : Nat) (x y : Lx_u) (s : St), iv = .int .i64 (i : Nat) ∧ i ≤ 60 ∧ remL x s ≤ 13 - i ∧ AlI K k x y s ∧ LeIs wr b1 x ∧ LeIs wr b2 y ∧ Ar wr p q s ∧ Fr [b1, b2, p, q] W wr
def AlY (W : World) (b1 b2 p q : Nat) (K : Int → Prop) (k : Int) (iv : Value) (wr : World) : Prop := ∃ (i : Nat) (x y : Lx_u) (s : St), iv = .int .i64 (i : Nat) ∧ i ≤ 60 ∧ (remL x s = 0 ∧ remL y s ≤ 13 - i) ∧ AlI K k x y s ∧ LeIs wr b1 x ∧ LeIs wr b2 y ∧ Ar wr p q s ∧ Fr [b1, b2, p, q] W wr
def AlZ (W : World) (b p q : Nat) (K : Int → Prop) (s0 : St) (l : Int) (iv : Value) (wr : World) : Prop := ∃ (i : Nat) (z : Lx_u) (s : St), iv = .int .i64 (i : Nat) ∧ i ≤ 60 ∧ remL z s ≤ 13 - i ∧ ZI K s0 l z s ∧ LeIs wr b z ∧ Ar wr p q s ∧ Fr [b, p, q] W wr
set_option maxRecDepth 100000 in
set_option maxHeartbeats 6400000 in
theorem alike_any (c : Cf) (rs : List (List O)) (ps ds : List Int) (ov pv dv : Value) (ss : List Sv) (R : List Nat) (k : Int) (hk : 0 ≤ k ∧ k ≤ 255) (one two : Bool) (v0 : Value) (n : Nat) (B : Nat → Bool) (w : World) (hI : Law.Bools w v0 n B)
    (hS : q3s w (.agg #[.int .i64 c.t, .int .i64 c.c, .int .i64 c.wd, .int .i64 c.v, ov, pv, dv]) c rs ps ds ov pv dv ss R) :
    Calls Tryz.prog 3 #[.agg #[.int .i64 c.t, .int .i64 c.c, .int .i64 c.wd, .int .i64 c.v, ov, pv, dv], .int .u8 k, .bool one, .bool two, v0] w fun e w' => e = .returned (.bool true) ∧ Fr [] w w' := by
  obtain ⟨va, vcap, rfl, hm1, hIB⟩ := hI;have HR := q9 hIB;clear hIB;have HS := q9 hS;have F0 := (Fr.refl [] w).alloc (.cells #[.int .i64 c.t, .int .i64 c.c, .int .i64 c.wd, .int .i64 c.v, ov, pv, dv] 27);have o1 := Ob.new w 27 #[.int .i64 c.t, .int .i64 c.c, .int .i64 c.wd, .int .i64 c.v, ov, pv, dv];clear hS;go_enter Tryz.func3, Tryz.ntmps3;go_wp2_with fail;generalize World.alloc w _ = w0 at *;generalize hb1 : w.heap.size = b1 at *;refine (known_true w0).mono ?_; rintro e w1 ⟨rfl, F1⟩;have G := F0.trans F1;replace o1 := o1.up F1;clear F0 F1;have HX := q9 (qc hb1 o1.lt);clear hb1;have d0 := Ob.cell (i := 0) o1 rfl;have d1 := Ob.cell (i := 1) o1 rfl;have d2 := Ob.cell (i := 2) o1 rfl;have d3 := Ob.cell (i := 3) o1 rfl;have d4 := Ob.cell (i := 4) o1 rfl;have d5 := Ob.cell (i := 5) o1 rfl;have d6 := Ob.cell (i := 6) o1 rfl;go_wp2_with fail;refine (wide_any c.t c.c c.wd c.v rs ps ds _ 300 _ (HS.out.scr.up G)).mono ?_; rintro e w2 ⟨rfl, F2⟩;replace G := G.trans F2;replace o1 := o1.up F2;clear d0 d1 d2 d3 d4 d5 d6 F2;have d0 := Ob.cell (i := 0) o1 rfl;have d1 := Ob.cell (i := 1) o1 rfl;have d2 := Ob.cell (i := 2) o1 rfl;have d3 := Ob.cell (i := 3) o1 rfl;have d4 := Ob.cell (i := 4) o1 rfl;have d5 := Ob.cell (i := 5) o1 rfl;have d6 := Ob.cell (i := 6) o1 rfl;cases hw : Tg c.t c.c c.wd c.v rs ps ds 300 with
  | true =>
   clear hw;go_wp2_with fail;go_ret;exact ⟨rfl, G⟩
  | false =>
   have HW := q9 (qb9 hw);clear hw;by_cases hn10 : n ≤ 60
   case neg =>
    have g1 : decide ((n : Int) > 60) = true := by simp; omega
    have g2 : decide ((60 : Int) < (n : Int)) = true := by simp; omega
    have g3 : decide (60 < n) = true := by simp; omega
    clear hn10;go_wp2_with fail;go_ret;exact ⟨rfl, G⟩
   have g1 : decide ((n : Int) > 60) = false := by simp; omega
   have g2 : decide ((60 : Int) < (n : Int)) = false := by simp; omega
   have g3 : decide (n > 60) = false := by simp; omega
   have HT := q9 hk;clear hk;have HC0 := q9 (qbz HW.out.2.2.2.2.2).1;go_wp2_with fail;refine qp A0g ?_;refine za [] w2 #[true, true, true, true, true, false, false] 5 2 rfl ?_;refine envT_pass [true, true, true, false, false, false, false] 2 (n := 173) (listed' := #[true, true, true, false, false, false, false]) rfl A0g A0g A0g A0g A0g rfl A0g (fun _ _ d _ _ h => by cases d <;> exact h) ((Fr.refl _ w2).drew) ?_;apply qg;refine ⟨fun wf Ff => ?_, ?_⟩
   · have i0 := qb (Ff.cell d0 A0h)
     have i1 := qb (Ff.cell d1 A0h)
     have i2 := qb (Ff.cell d2 A0h)
     have i3 := qb (Ff.cell d3 A0h)
     have i4 := qb (Ff.cell d4 A0h)
     have i5 := qb (Ff.cell d5 A0h)
     have i6 := qb (Ff.cell d6 A0h)
     simp only [sel]
     repeat (go_big_quiet_step (fail))
     exact wpQuiet_nil rfl
   have HG := q9 G;clear d0 d1 d2 d3 d4 d5 d6 o1 G;refine jo [3, 4] A0g A0h (fun w3 F3 i hi o ho => ?_);have D3 := (Fr.refl [] w2).drew.trans F3;rcases (by simpa using hi : i = 3 ∨ i = 4) with rfl | rfl
   case' inl =>
    obtain rfl := qi ho;clear ho hi;go_wp2_with fail;refine (left_any c rs ps ds ov pv dv ss R _ _ (HS.out.up (HG.out.trans D3)) HW.out.2.2.2.2.2 A0q).mono ?_; rintro e w4 ⟨pr, qr, rfl, hpr, hqr, Hr, F4⟩;have D4 := D3.trans F4;go_wp2_with fail;refine ql ⟨D4, ?_⟩;refine q7w 4 A0g rfl rfl (fun w5 F5 => ?_);have D5 := D4.trans F5;have oz := Ob.new w5 23 #[.int .i64 0, .int .i64 0, .int .i64 0, .int .i64 0];have FA := (Fr.refl [] w5).alloc (.cells #[.int .i64 0, .int .i64 0, .int .i64 0, .int .i64 0] 23);have hbc := D5.size;have hne0 : pr ≠ w5.heap.size ∧ qr ≠ w5.heap.size := by have := Hr.lt; have := F5.size; omega
    go_wp2_with fail;generalize World.alloc w5 _ = w6 at *;generalize w5.heap.size = bc at *;refine ql ⟨D5.trans FA, ?_⟩;refine qy (k := 5) rfl A0g (fun w7 F7 => ?_);have o7 := oz.up F7;have E7 := F5.trans (FA.trans F7);replace Hr := Hr.kept E7 A0h A0h;have G := HG.out.trans (D4.trans E7)
   case' inr =>
    obtain rfl := qi ho;clear ho hi;have oz := Ob.new w3 23 #[.int .i64 0, .int .i64 0, .int .i64 0, .int .i64 0];have FA := (Fr.refl [] w3).alloc (.cells #[.int .i64 0, .int .i64 0, .int .i64 0, .int .i64 0] 23);have hbc := D3.size;go_wp2_with fail;generalize World.alloc w3 _ = w4 at *;generalize w3.heap.size = bc at *;refine ql ⟨D3.trans FA, ?_⟩;refine q7w 3 A0g rfl rfl (fun w5 F5 => ?_);have D5 := (D3.trans FA).trans F5;replace oz := oz.up F5;go_wp2_with fail;refine (left_any c rs ps ds ov pv dv ss R _ _ (HS.out.up (HG.out.trans D5)) HW.out.2.2.2.2.2 A0q).mono ?_; rintro e w6 ⟨pr, qr, rfl, hpr, hqr, Hr, F6⟩;have hne0 : pr ≠ bc ∧ qr ≠ bc := by have := oz.lt; omega
    go_wp2_with fail;refine ql ⟨D5.trans F6, ?_⟩;refine qy (k := 5) rfl A0g (fun w7 F7 => ?_);have o7 := (oz.up F6).up F7;replace Hr := Hr.kept F7 A0h A0h;have G := HG.out.trans ((D5.trans F6).trans F7)
   all_goals
     have hbw : w.heap.size ≤ bc := qh HG.out.size hbc
     have hbl := o7.lt
     have hrl := Hr.lt
     clear hpr hqr
     obtain ⟨z0, z1, z2, z3⟩ := Pl.yu o7
     have zf := o7.frozen
     have F8 : Fr [bc] w7 ((((w7.setCell ⟨bc, 0, none⟩ (.int .i64 c.t)).setCell ⟨bc, 1, none⟩ (.int .i64 c.c)).setCell ⟨bc, 2, none⟩ (.int .i64 c.wd)).setCell ⟨bc, 3, none⟩ (.int .i64 c.v)) := (((Fr.setCell (S := [bc]) (b := bc) _ A0h).setCell' (b := bc) _ A0h).setCell' (b := bc) _ A0h).setCell' (b := bc) _ A0h
     have o8 : Ob ((((w7.setCell ⟨bc, 0, none⟩ (.int .i64 c.t)).setCell ⟨bc, 1, none⟩ (.int .i64 c.c)).setCell ⟨bc, 2, none⟩ (.int .i64 c.wd)).setCell ⟨bc, 3, none⟩ (.int .i64 c.v)) bc 23 #[.int .i64 c.t, .int .i64 c.c, .int .i64 c.wd, .int .i64 c.v] := Ob.set (i := 3) (Ob.set (i := 2) (Ob.set (i := 1) (Ob.set (i := 0) o7 (.int .i64 c.t)) (.int .i64 c.c)) (.int .i64 c.wd)) (.int .i64 c.v)
     go_wp2_with fail
     clear z0 z1 z2 z3 zf o7
     generalize World.setCell (World.setCell (World.setCell (World.setCell w7 _ _) _ _) _ _) _ _ = w8 at *
     replace Hr := Hr.kept F8 (by simpa using hne0.1) (by simpa using hne0.2)
     have G8 := G.own F8 (by simpa using hbw)
     have hbc8 := o8.lt
     have hr8 := Hr.lt
     clear F8 G hbl hrl
     obtain ⟨g, hMI, -⟩ := runP_I (rs := rs) ds HC0.out (q7z ds HW.out.2.2.2.2.2) ps A0q
     have hV := hMI.ok
     clear hMI
     have hLN := runP_len HC0.out rs ds ps
     generalize (q7n c rs ds ps).a = s at *
     have HAI := q9 (qc hV hLN)
     clear hV hLN
     refine (arena_any pr qr s _ Hr).mono ?_; rintro e w9 ⟨pa, qa, rfl, hpa, hqa, Ha_u, F9⟩
     have G9 := G8.trans F9
     have o9 := o8.up F9
     have Hr9 := Hr.kept F9 A0h A0h
     have hal := Ha_u.lt
     have hGs := G8.size
     clear G8 o8 F9 Hr
     obtain ⟨c0, c1, c2, c3⟩ := Pl.yu o9
     have HOK := q9 HAI.out.1
     go_wp2_with fail
     refine (Pick16.q2g c HC0.out k HT.out pr qr s _ Hr9 HAI.out.2).mono ?_; rintro e w10 ⟨rfl, hkc, F10⟩
     have hpk := (pick_K HC0.out HOK.out HT.out.1).1
     generalize Pick16.pickV c s k = kc at *
     have HWd := q9 (qc (wd_of (s := qa0 s.l) HC0.out HOK.out) hpk)
     have o10 := o9.up F10
     have Ha10 := Ha_u.kept F10 A0h A0h
     have G10 := G9.trans F10
     have hla := Ha10.lt
     have hlo := o10.lt
     have hgs := G10.size
     generalize qa0 s.l = sa at *
     clear F10 hkc hpk Hr9 Ha_u o9 G9 c0 c1 c2 c3 HAI HOK
     obtain ⟨c0, c1, c2, c3⟩ := Pl.yu o10
     have HA10 := q9 Ha10
     have HO10 := q9 o10
     have HG10 := q9 G10
     clear Ha10 o10 G10
     go_wp2_with fail
     refine qp A0g ?_
     refine za [] w10 #[true, true, true, true, true, true, true, true, false, false] 8 2 rfl ?_
     refine envT_pass [true, true, true, false, true, true, true, false, false, false] 2 (n := 173) (listed' := #[true, true, true, false, true, true, true, false, false, false]) rfl A0g A0g A0g A0g A0g rfl A0g (fun _ _ d _ _ h => by cases d <;> exact h) ((Fr.refl _ w10).drew) ?_
     apply qg
     refine ⟨fun wf Ff => ?_, ?_⟩
     · have k0 := qb (Ff.cell c0 A0h)
       have k1 := qb (Ff.cell c1 A0h)
       have k2 := qb (Ff.cell c2 A0h)
       have k3 := qb (Ff.cell c3 A0h)
       simp only [sel]
       repeat (go_big_quiet_step (fail))
       exact wpQuiet_nil rfl
     refine q7w 3 A0g rfl rfl (fun w11 F4 => ?_)
     have D4 := (Fr.refl [] w10).drew.trans F4
     clear F4 c0 c1 c2 c3
     go_wp2_with fail
     refine (qbl c kc one _).mono ?_; rintro e w12 ⟨b1, rfl, hb1, X1, F5⟩
     have D5 := D4.trans F5
     have hs4 := D4.size
     clear D4 F5
     go_wp2_with fail
     refine ql ⟨D5, ?_⟩
     refine q7w 7 A0g rfl rfl (fun w13 F6 => ?_)
     have D6 := D5.trans F6
     have X2 := LeIs.up X1 F6
     have hs5 := F6.size
     clear F6
     go_wp2_with fail
     refine (qbl c kc two _).mono ?_; rintro e w14 ⟨b2, rfl, hb2, Y1_u, F7⟩
     have D7 := D6.trans F7
     have X3 := X2.up F7
     have hx := LeIs.lt X1
     clear X1 X2 D6
     go_wp2_with fail
     refine ql ⟨D7, ?_⟩
     refine qy (k := 8) rfl A0g (fun w15 F8 => ?_)
     have D8 := D7.trans F8
     have X := X3.up F8
     have Y := LeIs.up Y1_u F8
     have A8 := HA10.out.kept D8 A0h A0h
     have hs3 := D5.size
     have HN := q9 (show (b1 ≠ pa ∧ b1 ≠ qa ∧ b1 ≠ b2) ∧ (b2 ≠ pa ∧ b2 ≠ qa) ∧ (w.heap.size ≤ b1 ∧ w.heap.size ≤ b2 ∧ w.heap.size ≤ pa ∧ w.heap.size ≤ qa) ∧ (bc ≠ b1 ∧ bc ≠ b2 ∧ bc ≠ pa ∧ bc ≠ qa) by
       refine ⟨⟨?_, ?_, ?_⟩, ⟨?_, ?_⟩, ⟨?_, ?_, ?_, ?_⟩, ⟨?_, ?_, ?_, ?_⟩⟩ <;> omega)
     have HG := q9 (HG10.out.trans D8)
     have HO := q9 (HO10.out.up D8)
     have HL := q9 (qc hn10 hm1)
     have HAL := q9 (AlI.new HWd.out.1 HWd.out.2 one two)
     have HK := q9 HWd.out.2
     clear HG10 HO10 HA10 HWd hla hlo hgs hs3 hs4 hs5 hb1 hb2 hx D5 D7 D8 F7 F8 X3 Y1_u hm1 hpa hqa hal hGs hbc8 hr8 hbw HC0 HX HW HT
     generalize hKK : g.K = KK at *
     clear hKK
     go_wp2_with fail
     go_loopw [17] (AlR w15 b1 b2 pa qa KK kc) (fun v _ => 70 - (intOf v).toNat)
     case atStart => exact ⟨0, _, _, _, rfl, by omega, HAL.out, X, Y, A8, Fr.refl _ _⟩
     · skip
       clear HAL X Y A8
       obtain ⟨i, x, y, s1, rfl, hin, hB, X2, Y2_u, A2, F2⟩ := hrel
       have HB := q9 hB
       have HF := q9 (qc X2 (qc Y2_u (qc A2 F2)))
       clear hB X2 Y2_u A2 F2
       by_cases hi : i < 60
       case pos =>
         have q4 : decide ((i : Int) < 60) = true := by simp; omega
         have HS1 := q9 (lstep_any HB.out.hx.ln HF.out.1 HF.out.2.2.1 ⟨HN.out.1.1, HN.out.1.2.1⟩)
         have HS2 := q9 (lstep_any HB.out.hy.ln HF.out.2.1 HF.out.2.2.1 HN.out.2.1)
         have hlm := HL.out.2
         have hh30 := HL.out.1
         by_cases hlt : n ≤ i
         case pos =>
           have q5 : decide ((i : Int) ≥ (n : Int)) = true := by simp; omega
           have q6 : decide ((n : Int) ≤ (i : Int)) = true := by simp; omega
           have q7 : decide (n ≤ i) = true := by simp; omega
           clear hlt
           go_wp2_with fail
           refine HS1.out.mono ?_; rintro e w16 ⟨rfl, X3, A3, F3⟩
           have Y3_u := HF.out.2.1.kept F3 A0i
           have F4 := HF.out.2.2.2.trans (F3.mono A0h)
           go_wp2_with fail
           go_roundw
           case rel => exact ⟨i + 1, _, _, _, by simp, by omega, HB.out.sx.1, X3, Y3_u, A3, F4⟩
           case measure => simp [intOf]; omega
         have hlt' : i < n := by omega
         have q5 : decide ((i : Int) ≥ (n : Int)) = false := by simp; omega
         have q6 : decide ((n : Int) ≤ (i : Int)) = false := by simp; omega
         have q7 : decide (n ≤ i) = false := by simp; omega
         obtain h0 | ⟨b0, o0, rfl, hb0, hc0⟩ := HR.out
         · omega
         have x1 := ((HG.out.own HF.out.2.2.2 A0l).cell (hc0 i hlt') A0h)
         clear hc0 hlt
         cases hBi : B i
         case true =>
           rw [hBi] at x1
           go_wp2_with fail
           refine HS1.out.mono ?_; rintro e w16 ⟨rfl, X3, A3, F3⟩
           have Y3_u := HF.out.2.1.kept F3 A0i
           have F4 := HF.out.2.2.2.trans (F3.mono A0h)
           go_wp2_with fail
           go_roundw
           case rel => exact ⟨i + 1, _, _, _, by simp, by omega, HB.out.sx.1, X3, Y3_u, A3, F4⟩
           case measure => simp [intOf]; omega
         case false =>
           rw [hBi] at x1
           go_wp2_with fail
           refine HS2.out.mono ?_; rintro e w16 ⟨rfl, Y3_u, A3, F3⟩
           have X3 := HF.out.1.kept F3 A0j
           have F4 := HF.out.2.2.2.trans (F3.mono A0h)
           go_wp2_with fail
           go_roundw
           case rel => exact ⟨i + 1, _, _, _, by simp, by omega, HB.out.sy.1, X3, Y3_u, A3, F4⟩
           case measure => simp [intOf]; omega
       have q4 : decide ((i : Int) < 60) = false := by simp; omega
       go_wp2_with fail
       have HG9 := q9 (HG.out.own HF.out.2.2.2 A0l)
       have HO9 := q9 (HO.out.kept HF.out.2.2.2 A0p)
       obtain ⟨X9_u, Y9_u, A9, -⟩ := HF.out
       have hB9 := HB.out
       clear HF HG HO HB HR hin hi q4 HL
       go_loopw [18] (AlX wr b1 b2 pa qa KK kc) (fun v _ => 70 - (intOf v).toNat)
       case atStart => exact ⟨0, x, y, s1, rfl, by omega, rem_le _ _, hB9, X9_u, Y9_u, A9, Fr.refl _ _⟩
       · skip
         clear hB9 X9_u Y9_u A9
         obtain ⟨j, x, y, s1, rfl, hj, hxy, hB, X2, Y2_u, A2, F2⟩ := hrel
         have HB := q9 hB
         have HM := q9 hxy
         have HF := q9 (qc X2 (qc Y2_u (qc A2 F2)))
         clear hB hxy X2 Y2_u A2 F2
         by_cases hj9 : j < 60
         case pos =>
           have q4 : decide ((j : Int) < 60) = true := by simp; omega
           have HS1 := q9 (lstep_any HB.out.hx.ln HF.out.1 HF.out.2.2.1 ⟨HN.out.1.1, HN.out.1.2.1⟩)
           go_wp2_with fail
           refine HS1.out.mono ?_; rintro e w16 ⟨rfl, X3, A3, F3⟩
           have Y3_u := HF.out.2.1.kept F3 A0i
           have F4 := HF.out.2.2.2.trans (F3.mono A0h)
           go_wp2_with fail
           go_roundw
           case rel => exact ⟨j + 1, _, _, _, by simp, by omega, by have h1 := HB.out.sx.2.1; have := HM.out; omega, HB.out.sx.1, X3, Y3_u, A3, F4⟩
           case measure => simp [intOf]; omega
         have q4 : decide ((j : Int) < 60) = false := by simp; omega
         go_wp2_with fail
         have HG8 := q9 (HG9.out.own HF.out.2.2.2 A0l)
         have HO8 := q9 (HO9.out.kept HF.out.2.2.2 A0p)
         obtain ⟨X9_u, Y9_u, A9, -⟩ := HF.out
         have hB9 := HB.out
         have hM0 : remL x s1 = 0 := by have := HM.out; omega
         clear HF HG9 HO9 HB HM hj hj9 q4
         go_loopw [19] (AlY wr b1 b2 pa qa KK kc) (fun v _ => 70 - (intOf v).toNat)
         case atStart => exact ⟨0, x, y, s1, rfl, by omega, ⟨hM0, rem_le _ _⟩, hB9, X9_u, Y9_u, A9, Fr.refl _ _⟩
         · skip
           clear hB9 X9_u Y9_u A9 hM0
           obtain ⟨j, x, y, s1, rfl, hj, hxy, hB, X2, Y2_u, A2, F2⟩ := hrel
           have HB := q9 hB
           have HM := q9 hxy
           have HF := q9 (qc X2 (qc Y2_u (qc A2 F2)))
           clear hB hxy X2 Y2_u A2 F2
           by_cases hj9 : j < 60
           case pos =>
             have q4 : decide ((j : Int) < 60) = true := by simp; omega
             have HS1 := q9 (lstep_any HB.out.hy.ln HF.out.2.1 HF.out.2.2.1 HN.out.2.1)
             go_wp2_with fail
             refine HS1.out.mono ?_; rintro e w16 ⟨rfl, Y3_u, A3, F3⟩
             have X3 := HF.out.1.kept F3 A0j
             have F4 := HF.out.2.2.2.trans (F3.mono A0h)
             go_wp2_with fail
             go_roundw
             case rel => exact ⟨j + 1, _, _, _, by simp, by omega, ⟨by have h1 := HB.out.sy.2.2; have := HM.out.1; omega, by have h1 := HB.out.sy.2.1; have := HM.out.2; omega⟩, HB.out.sy.1, X3, Y3_u, A3, F4⟩
             case measure => simp [intOf]; omega
           have q4 : decide ((j : Int) < 60) = false := by simp; omega
           have lx : x.ln = 11 := rem_0 HB.out.hx HM.out.1
           have ly : y.ln = 11 := rem_0 HB.out.hy (by have := HM.out.2; omega)
           obtain ⟨e1, r1⟩ := res_of HB.out.hx HB.out.W lx
           obtain ⟨e2, r2⟩ := res_of HB.out.hy HB.out.W ly
           rw [HB.out.cx] at e1
           rw [HB.out.cy] at e2
           have e3 : y.rl = x.rl := e2.trans e1.symm
           have e4 : y.rm = x.rm := by rw [r2.hm, r1.hm, e3]
           have e5 : y.ra = x.ra := by rw [r2.hf, r1.hf, e3]
           have HV1 := q9 (lchk_any HF.out.1)
           have HV2 := q9 (lchk_any HF.out.2.1)
           rw [e3, e4, e5] at HV2
           have HWd := q9 HB.out.W
           have HA9 := q9 HF.out.2.2.1
           have HGG := q9 (HG8.out.own HF.out.2.2.2 A0l)
           have HOO := q9 (HO8.out.kept HF.out.2.2.2 A0p)
           have hlb := HWd.out.al _ r1.l0
           have hlz := HWd.out.sz
           have HE := q9 (qc e1 r1)
           clear HF HB HM lx ly HG8 HO8 hj9 hj e1 e2 e3 e4 e5 r1 r2
           generalize x.rl = rl at *
           generalize x.rm = rm at *
           generalize x.ra = ra at *
           have q0 : (rl == 0) = false := by simp; omega
           have qa2_u : (rl != rl) = false := by simp
           have qa3_u : (rm != rm) = false := by simp
           have qa4_u : (ra != ra) = false := by simp
           have w2 : wrap64 (rl + 2) = rl + 2 := w64 A0e A0e
           go_wp2_with fail
           refine HV1.out.mono ?_; rintro e _ ⟨rfl, rfl⟩
           go_wp2_with fail
           refine HV2.out.mono ?_; rintro e _ ⟨rfl, rfl⟩
           go_wp2_with fail
           have hf0 : rm = 0 → ra = atW (qw s1.l (rl + 2)) := HE.out.2.f0
           generalize hav : atW (qw s1.l (rl + 2)) = av at *
           have HAV := q9 hav
           clear hav
           have h3 : (rm = 0 ∧ (av != ra) = false) ∨ (rm ≠ 0 ∧ (av != ra) = false) ∨ (rm ≠ 0 ∧ (av != ra) = true) := by
             by_cases e : rm = 0
             · exact .inl ⟨e, by rw [hf0 e]; simp⟩
             · cases hb : (av != ra)
               · exact .inr (.inl ⟨e, rfl⟩)
               · exact .inr (.inr ⟨e, rfl⟩)
           clear hf0
           rcases h3 with ⟨hm, qf_u⟩ | ⟨hm, qf_u⟩ | ⟨hm, qf_u⟩
           case' inl =>
             have hmH := q9 hm
             have qm : (rm != 0) = false := by simp [hm]
             clear hm
             refine (yx _ pa qa _ _ HA9.out).mono ?_; rintro e _ ⟨rfl, rfl⟩
             go_wp2_with fail
             refine (Mx.Xt _ _).mono ?_; rintro e _ ⟨rfl, rfl⟩
             rw [HAV.out]
             obtain ⟨c0, c1, c2, c3⟩ := Pl.yu HOO.out
             go_wp2_with fail
             refine (qbl c kc true _).mono ?_; rintro e wz ⟨bz, rfl, hbz, Z1_u, F20⟩
             have hgs := HGG.out.size
             have hlA := HA9.out.lt
             have HZN := q9 (show (bz ≠ pa ∧ bz ≠ qa) ∧ w.heap.size ≤ bz by refine ⟨⟨?_, ?_⟩, ?_⟩ <;> omega)
             have HZ := q9 (ZI.new HWd.out HK.out HE.out.1.symm true)
             have AZ := HA9.out.kept F20 A0h A0h
             have HGZ := q9 (HGG.out.trans F20)
             clear c0 c1 c2 c3 F20 hbz hgs hlA HGG HOO HA9 HV1 HV2
             generalize hcz : Lx_u.new kc true = yz_u at *
             clear hcz
             go_wp2_with fail
           case' inr.inl =>
             have hmH := q9 hm
             have qm : (rm != 0) = true := by simp [hm]
             have qm0 : (rm == 0) = false := by simp [hm]
             clear hm
             refine (yx _ pa qa _ _ HA9.out).mono ?_; rintro e _ ⟨rfl, rfl⟩
             go_wp2_with fail
             refine (Mx.Xt _ _).mono ?_; rintro e _ ⟨rfl, rfl⟩
             rw [HAV.out]
             obtain ⟨c0, c1, c2, c3⟩ := Pl.yu HOO.out
             go_wp2_with fail
             refine (qbl c kc true _).mono ?_; rintro e wy ⟨by_, rfl, hby, Z0_u, F19⟩
             have HOy := q9 (HOO.out.up F19)
             have HGy := q9 (HGG.out.trans F19)
             have HAy := q9 (HA9.out.kept F19 A0h A0h)
             clear c0 c1 c2 c3 F19 hby Z0_u
             obtain ⟨c0, c1, c2, c3⟩ := Pl.yu HOy.out
             go_wp2_with fail
             refine (qbl c rm true _).mono ?_; rintro e wz ⟨bz, rfl, hbz, Z1_u, F20⟩
             have hgs := HGy.out.size
             have hlA := HAy.out.lt
             have HZN := q9 (show (bz ≠ pa ∧ bz ≠ qa) ∧ w.heap.size ≤ bz by refine ⟨⟨?_, ?_⟩, ?_⟩ <;> omega)
             have HZ := q9 (ZI.new HWd.out (HE.out.2.m0.resolve_left hmH.out).1 (HE.out.2.m0.resolve_left hmH.out).2 true)
             have AZ := HAy.out.kept F20 A0h A0h
             have HGZ := q9 (HGy.out.trans F20)
             clear c0 c1 c2 c3 F20 hbz hgs hlA HGG HOO HA9 HV1 HV2 HOy HGy HAy
             generalize hcz : Lx_u.new rm true = yz_u at *
             clear hcz
             go_wp2_with fail
           case' inr.inr =>
             have hmH := q9 hm
             have qm : (rm != 0) = true := by simp [hm]
             have qm0 : (rm == 0) = false := by simp [hm]
             clear hm
             refine (yx _ pa qa _ _ HA9.out).mono ?_; rintro e _ ⟨rfl, rfl⟩
             go_wp2_with fail
             refine (Mx.Xt _ _).mono ?_; rintro e _ ⟨rfl, rfl⟩
             rw [HAV.out]
             obtain ⟨c0, c1, c2, c3⟩ := Pl.yu HOO.out
             go_wp2_with fail
             refine (qbl c kc true _).mono ?_; rintro e wy ⟨by_, rfl, hby, Z0_u, F19⟩
             have HOy := q9 (HOO.out.up F19)
             have HGy := q9 (HGG.out.trans F19)
             have HAy := q9 (HA9.out.kept F19 A0h A0h)
             clear c0 c1 c2 c3 F19 hby Z0_u
             obtain ⟨c0, c1, c2, c3⟩ := Pl.yu HOy.out
             go_wp2_with fail
             refine (qbl c rm true _).mono ?_; rintro e wz ⟨bz, rfl, hbz, Z1_u, F20⟩
             have hgs := HGy.out.size
             have hlA := HAy.out.lt
             have HZN := q9 (show (bz ≠ pa ∧ bz ≠ qa) ∧ w.heap.size ≤ bz by refine ⟨⟨?_, ?_⟩, ?_⟩ <;> omega)
             have HZ := q9 (ZI.new HWd.out (HE.out.2.m0.resolve_left hmH.out).1 (HE.out.2.m0.resolve_left hmH.out).2 true)
             have AZ := HAy.out.kept F20 A0h A0h
             have HGZ := q9 (HGy.out.trans F20)
             clear c0 c1 c2 c3 F20 hbz hgs hlA HGG HOO HA9 HV1 HV2 HOy HGy HAy
             generalize hcz : Lx_u.new rm true = yz_u at *
             clear hcz
             go_wp2_with fail
           all_goals (
             go_loopw [27] (AlZ wz bz pa qa KK s1 rl) (fun v _ => 70 - (intOf v).toNat)
             case atStart => exact ⟨0, yz_u, s1, rfl, by omega, rem_le _ _, HZ.out, Z1_u, AZ, Fr.refl _ _⟩
             · skip
               clear HZ Z1_u AZ
               obtain ⟨j, z, s2, rfl, hj, hxy, hB, X2, A2, F2⟩ := hrel
               have HB := q9 hB
               have HM := q9 hxy
               have HF := q9 (qc X2 (qc A2 F2))
               clear hB hxy X2 A2 F2
               by_cases hj9 : j < 60
               case pos =>
                 have q4 : decide ((j : Int) < 60) = true := by simp; omega
                 have HS1 := q9 (lstep_any HB.out.hz.ln HF.out.1 HF.out.2.1 HZN.out.1)
                 go_wp2_with fail
                 refine HS1.out.mono ?_; rintro e w16 ⟨rfl, X3, A3, F3⟩
                 have F4 := HF.out.2.2.trans F3
                 go_wp2_with fail
                 go_roundw
                 case rel => exact ⟨j + 1, _, _, by simp, by omega, by have h1 := (HB.out.go HWd.out HE.out.2).2; have := HM.out; omega, (HB.out.go HWd.out HE.out.2).1, X3, A3, F4⟩
                 case measure => simp [intOf]; omega
               have q4 : decide ((j : Int) < 60) = false := by simp; omega
               have lz : z.ln = 11 := rem_0 HB.out.hz (by have := HM.out; omega)
               obtain ⟨e1, e2, e3, e4⟩ := HB.out.done HWd.out HE.out.2 lz
               have HV := q9 (lchk_any HF.out.1)
               rw [e1, e2, e3] at HV
               have HD := q9 (ldrw_any HF.out.1)
               rw [e4] at HD
               have HGG := q9 (HGZ.out.own HF.out.2.2 (by simp; exact ⟨HZN.out.2, HN.out.2.2.1.2.2.1, HN.out.2.2.1.2.2.2⟩))
               clear HF HB HM lz e1 e2 e3 e4 hj hj9
               have s1q : (rl == rl) = true := by simp
               have s2q : (rm == rm) = true := by simp
               have s3q : (ra == ra) = true := by simp
               go_wp2_with fail
               refine HV.out.mono ?_; rintro e _ ⟨rfl, rfl⟩
               go_wp2_with fail
               refine HD.out.mono ?_; rintro e _ ⟨rfl, rfl⟩
               go_wp2_with fail
               go_ret
               exact ⟨rfl, HGG.out⟩)
end Go.Proofs.YtleclbldlladmaaGreat.Le_u
