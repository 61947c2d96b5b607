/- Parts. -/
import Derived.Test.YtleclbldlladmaaGreatJab
import Derived.Test.YtleclbldlladmaaGreatJac
import Derived.Test.YtleclbldlladmaaGreatJaa
import Derived.Deep.CutRange
set_option linter.unusedVariables false
set_option linter.unusedSimpArgs false
set_option maxRecDepth 100000
namespace Go.Proofs.YtleclbldlladmaaGreat.Le_u
open Go.Proofs.YtleclbldlladmaaGreat.Pick16 Go.Proofs.YtleclbldlladmaaGreat.Rf Go.Proofs.YtleclbldlladmaaGreat.Ch Go.RowKit Go.Maps Go.Proofs.YtleclbldlladmaaGreat.Ar Go.Proofs.YtleclbldlladmaaGreat.Og Go.Proofs.YtleclbldlladmaaGreat.Ref Go.Proofs.YtleclbldlladmaaGreat.Mx Go.Proofs.YtleclbldlladmaaGreat.Wd
def MkR (W : World) (b p q : Nat) (K : Int → Prop) (k : Int) (s0 : St) (iv : Value) (wr : World) : Prop := ∃ (i : Nat) (x : Lx_u) (s : St), iv = .int .i64 (i : Nat) ∧ x.ln ≠ 11 ∧ remL x s ≤ 13 - i ∧ MkI K k s0 x s ∧ LeIs wr b x ∧ Ar wr p q s ∧ Fr [b, p, q] W wr
def MkL (W : World) (n : Nat) (iv : Value) (wr : World) : Prop := ∃ i : Nat, iv = .int .i64 (i : Nat) ∧ i ≤ n ∧ Fr [] W wr
theorem rem_pos {K : Int → Prop} {z : Lx_u} {s : St} (h : LdI K z s) (l : z.ln ≠ 11) : 1 ≤ remL z s := by
  rcases Nat.eq_zero_or_pos (remL z s) with e | e
  · exact absurd (rem_0 h e) l
  · exact e
set_option maxRecDepth 100000 in
set_option maxHeartbeats 6400000 in
theorem marks_any (c : Cf) (rs : List (List O)) (ps ds : List Int) (ov pv dv : Value) (ss : List Sv) (R : List Nat) (k : Int) (hk : 0 ≤ k ∧ k ≤ 255) (dr : Bool) (w : World)
    (hS : q3s w (.agg #[.int .i64 c.t, .int .i64 c.c, .int .i64 c.wd, .int .i64 c.v, ov, pv, dv]) c rs ps ds ov pv dv ss R) :
    Calls Tryz.prog 4 #[.agg #[.int .i64 c.t, .int .i64 c.c, .int .i64 c.wd, .int .i64 c.v, ov, pv, dv], .int .u8 k, .bool dr] w fun e w' => e = .returned (.bool true) ∧ Fr [] w w' := by
  have HS := q9 hS;have F0 := (Fr.refl [] w).alloc (.cells #[.int .i64 c.t, .int .i64 c.c, .int .i64 c.wd, .int .i64 c.v, ov, pv, dv] 27);have o1 := Ob.new w 27 #[.int .i64 c.t, .int .i64 c.c, .int .i64 c.wd, .int .i64 c.v, ov, pv, dv];clear hS;go_enter Tryz.func4, Tryz.ntmps4;go_wp2_with fail;generalize World.alloc w _ = w0 at *;generalize hb1 : w.heap.size = b1 at *;refine (known_true w0).mono ?_; rintro e w1 ⟨rfl, F1⟩;have G := F0.trans F1;replace o1 := o1.up F1;clear F0 F1;have HX := q9 (qc hb1 o1.lt);clear hb1;have d0 := Ob.cell (i := 0) o1 rfl;have d1 := Ob.cell (i := 1) o1 rfl;have d2 := Ob.cell (i := 2) o1 rfl;have d3 := Ob.cell (i := 3) o1 rfl;have d4 := Ob.cell (i := 4) o1 rfl;have d5 := Ob.cell (i := 5) o1 rfl;have d6 := Ob.cell (i := 6) o1 rfl;go_wp2_with fail;refine (wide_any c.t c.c c.wd c.v rs ps ds _ 300 _ (HS.out.scr.up G)).mono ?_; rintro e w2 ⟨rfl, F2⟩;replace G := G.trans F2;replace o1 := o1.up F2;clear d0 d1 d2 d3 d4 d5 d6 F2;have d0 := Ob.cell (i := 0) o1 rfl;have d1 := Ob.cell (i := 1) o1 rfl;have d2 := Ob.cell (i := 2) o1 rfl;have d3 := Ob.cell (i := 3) o1 rfl;have d4 := Ob.cell (i := 4) o1 rfl;have d5 := Ob.cell (i := 5) o1 rfl;have d6 := Ob.cell (i := 6) o1 rfl;cases hw : Tg c.t c.c c.wd c.v rs ps ds 300 with
  | true =>
   clear hw;go_wp2_with fail;go_ret;exact ⟨rfl, G⟩
  | false =>
   have HW := q9 (qb9 hw);clear hw;have HT := q9 hk;clear hk;have HC0 := q9 (qbz HW.out.2.2.2.2.2).1;go_wp2_with fail;have HG := q9 G;clear G;go_cut [7, 8] from 20 to 27 (fun vb vr wx => ∃ bc pr qr : Nat, vb = .pointer (some ⟨bc, 0, none⟩) ∧ vr = .pointer (some ⟨pr, 0, none⟩) ∧ (w.heap.size ≤ bc ∧ (pr ≠ bc ∧ qr ≠ bc)) ∧ Ob wx bc 23 #[.int .i64 c.t, .int .i64 c.c, .int .i64 c.wd, .int .i64 c.v] ∧ Rar wx pr qr (q7n c rs ds ps).a ∧ Fr [] w wx)
   case first =>
    refine qp A0g ?_;refine za [] w2 #[true, true, true, true, true, false, false] 5 2 rfl ?_;refine envT_pass [true, true, true, false, false, false, false] 2 (n := 201) (listed' := #[true, true, true, false, false, false, false]) rfl A0g A0g A0g A0g A0g rfl A0g (fun _ _ d _ _ h => by cases d <;> exact h) ((Fr.refl _ w2).drew) ?_;apply qg;refine ⟨fun wf Ff => ?_, ?_⟩
    · have i0 := qb (Ff.cell d0 A0h)
      have i1 := qb (Ff.cell d1 A0h)
      have i2 := qb (Ff.cell d2 A0h)
      have i3 := qb (Ff.cell d3 A0h)
      have i4 := qb (Ff.cell d4 A0h)
      have i5 := qb (Ff.cell d5 A0h)
      have i6 := qb (Ff.cell d6 A0h)
      simp only [sel]
      repeat (go_big_quiet_step (fail))
      exact wpQuiet_nil rfl
    clear d0 d1 d2 d3 d4 d5 d6 o1;refine jo [3, 4] A0g A0h (fun w3 F3 i hi o ho => ?_);have D3 := (Fr.refl [] w2).drew.trans F3;rcases (by simpa using hi : i = 3 ∨ i = 4) with rfl | rfl
    case' inl =>
     obtain rfl := qi ho;clear ho hi;go_wp2_with fail;refine (left_any c rs ps ds ov pv dv ss R _ _ (HS.out.up (HG.out.trans D3)) HW.out.2.2.2.2.2 A0o).mono ?_; rintro e w4 ⟨pr, qr, rfl, hpr, hqr, Hr, F4⟩;have D4 := D3.trans F4;go_wp2_with fail;refine ql ⟨D4, ?_⟩;refine q7w 4 A0g rfl rfl (fun w5 F5 => ?_);have D5 := D4.trans F5;have oz := Ob.new w5 23 #[.int .i64 0, .int .i64 0, .int .i64 0, .int .i64 0];have FA := (Fr.refl [] w5).alloc (.cells #[.int .i64 0, .int .i64 0, .int .i64 0, .int .i64 0] 23);have hbc := D5.size;have hne0 : pr ≠ w5.heap.size ∧ qr ≠ w5.heap.size := by have := Hr.lt; have := F5.size; omega
     go_wp2_with fail;generalize World.alloc w5 _ = w6 at *;generalize w5.heap.size = bc at *;refine ql ⟨D5.trans FA, ?_⟩;refine qy (k := 5) rfl A0g (fun w7 F7 => ?_);have o7 := oz.up F7;have E7 := F5.trans (FA.trans F7);replace Hr := Hr.kept E7 A0h A0h;have G := HG.out.trans (D4.trans E7)
    case' inr =>
     obtain rfl := qi ho;clear ho hi;have oz := Ob.new w3 23 #[.int .i64 0, .int .i64 0, .int .i64 0, .int .i64 0];have FA := (Fr.refl [] w3).alloc (.cells #[.int .i64 0, .int .i64 0, .int .i64 0, .int .i64 0] 23);have hbc := D3.size;go_wp2_with fail;generalize World.alloc w3 _ = w4 at *;generalize w3.heap.size = bc at *;refine ql ⟨D3.trans FA, ?_⟩;refine q7w 3 A0g rfl rfl (fun w5 F5 => ?_);have D5 := (D3.trans FA).trans F5;replace oz := oz.up F5;go_wp2_with fail;refine (left_any c rs ps ds ov pv dv ss R _ _ (HS.out.up (HG.out.trans D5)) HW.out.2.2.2.2.2 A0o).mono ?_; rintro e w6 ⟨pr, qr, rfl, hpr, hqr, Hr, F6⟩;have hne0 : pr ≠ bc ∧ qr ≠ bc := by have := oz.lt; omega
     go_wp2_with fail;refine ql ⟨D5.trans F6, ?_⟩;refine qy (k := 5) rfl A0g (fun w7 F7 => ?_);have o7 := (oz.up F6).up F7;replace Hr := Hr.kept F7 A0h A0h;have G := HG.out.trans ((D5.trans F6).trans F7)
    all_goals
      have hbw : w.heap.size ≤ bc := qh HG.out.size hbc
      have hbl := o7.lt
      have hrl := Hr.lt
      clear hpr hqr
      obtain ⟨z0, z1, z2, z3⟩ := Pl.yu o7
      have zf := o7.frozen
      have F8 : Fr [bc] w7 ((((w7.setCell ⟨bc, 0, none⟩ (.int .i64 c.t)).setCell ⟨bc, 1, none⟩ (.int .i64 c.c)).setCell ⟨bc, 2, none⟩ (.int .i64 c.wd)).setCell ⟨bc, 3, none⟩ (.int .i64 c.v)) := (((Fr.setCell (S := [bc]) (b := bc) _ A0h).setCell' (b := bc) _ A0h).setCell' (b := bc) _ A0h).setCell' (b := bc) _ A0h
      have o8 : Ob ((((w7.setCell ⟨bc, 0, none⟩ (.int .i64 c.t)).setCell ⟨bc, 1, none⟩ (.int .i64 c.c)).setCell ⟨bc, 2, none⟩ (.int .i64 c.wd)).setCell ⟨bc, 3, none⟩ (.int .i64 c.v)) bc 23 #[.int .i64 c.t, .int .i64 c.c, .int .i64 c.wd, .int .i64 c.v] := Ob.set (i := 3) (Ob.set (i := 2) (Ob.set (i := 1) (Ob.set (i := 0) o7 (.int .i64 c.t)) (.int .i64 c.c)) (.int .i64 c.wd)) (.int .i64 c.v)
      go_wp2_with fail
      clear z0 z1 z2 z3 zf o7
      generalize World.setCell (World.setCell (World.setCell (World.setCell w7 _ _) _ _) _ _) _ _ = w8 at *
      replace Hr := Hr.kept F8 (by simpa using hne0.1) (by simpa using hne0.2)
      have G8 := G.own F8 (by simpa using hbw)
      go_meet
      exact ⟨bc, pr, qr, rfl, rfl, ⟨hbw, hne0⟩, o8, Hr, G8⟩
   case rest =>
    obtain ⟨bc, pr, qr, rfl, rfl, ⟨hbw, hne0⟩, o8, Hr, G8⟩ := hcut;have hbc8 := o8.lt;have hr8 := Hr.lt;clear d0 d1 d2 d3 d4 d5 d6 o1;go_wp2_with fail;obtain ⟨g, hMI, -⟩ := runP_I (rs := rs) ds HC0.out (q7z ds HW.out.2.2.2.2.2) ps A0o;have hV := hMI.ok;clear hMI;have hLN := hV.rel.len;generalize (q7n c rs ds ps).a = s at *;have HAI := q9 (qc hV hLN);clear hV hLN;refine (arena_any pr qr s _ Hr).mono ?_; rintro e w9 ⟨pa, qa, rfl, hpa, hqa, Ha_u, F9⟩;have G9 := G8.trans F9;have o9 := o8.up F9;have Hr9 := Hr.kept F9 A0h A0h;have hal := Ha_u.lt;have hGs := G8.size;clear G8 o8 F9 Hr;obtain ⟨c0, c1, c2, c3⟩ := Pl.yu o9;have HOK := q9 HAI.out.1;go_wp2_with fail;refine (Pick16.q2g c HC0.out k HT.out pr qr s _ Hr9 HAI.out.2).mono ?_; rintro e w10 ⟨rfl, hkc, F10⟩;have hpk := (pick_K HC0.out HOK.out HT.out.1);generalize Pick16.pickV c s k = kc at *;have HMK := q9 (MkI.new (s := qa0 s.l) (wd_of (s := qa0 s.l) HC0.out HOK.out) hpk.1 dr (mt_of (s := qa0 s.l) HC0.out HOK.out) (sf_of (s := qa0 s.l) HC0.out HOK.out hpk.1));have HIJ := q9 (inj_of (s := qa0 s.l) HC0.out HOK.out);have HAK := q9 hpk.2;have o10 := o9.up F10;have Ha10 := Ha_u.kept F10 A0h A0h;have G10 := G9.trans F10;have hla := Ha10.lt;have hlo := o10.lt;have hgs := G10.size;have Hr10 := Hr9.kept F10 A0h A0h;have hlr := Hr10.lt;have hsl : (qa0 s.l).l = s.l := rfl;have HSL := q9 hsl;generalize qa0 s.l = sa at *;clear F10 hkc hpk Hr9 Ha_u o9 G9 c0 c1 c2 c3 HAI HOK hsl;obtain ⟨c0, c1, c2, c3⟩ := Pl.yu o10;have HO10 := q9 o10;have HG10 := q9 G10;have HR10 := q9 Hr10;clear o10 G10 Hr10;go_wp2_with fail;refine (qbl c kc dr _).mono ?_; rintro e w11 ⟨b, rfl, hb, X, F11⟩
    have HN := q9 (show (b ≠ pa ∧ b ≠ qa) ∧ (w.heap.size ≤ b ∧ w.heap.size ≤ pa ∧ w.heap.size ≤ qa) ∧ (bc ≠ b ∧ bc ≠ pa ∧ bc ≠ qa) ∧ (pr ≠ b ∧ pr ≠ pa ∧ pr ≠ qa) ∧ (qr ≠ b ∧ qr ≠ pa ∧ qr ≠ qa) by
      refine ⟨⟨?_, ?_⟩, ⟨?_, ?_, ?_⟩, ⟨?_, ?_, ?_⟩, ⟨?_, ?_, ?_⟩, ⟨?_, ?_, ?_⟩⟩ <;> omega)
    have A := Ha10.kept F11 A0h A0h;have HO := q9 (HO10.out.up F11);have HG := q9 (HG10.out.trans F11);have HRr := q9 (HR10.out.kept F11 A0h A0h);clear HO10 HG10 HR10 Ha10 F11 hb hla hlo hgs hlr hpa hqa hal hGs hbc8 hr8 hbw c0 c1 c2 c3;have X : LeIs w11 b (Lx_u.new kc dr) := X;generalize hKK : g.K = KK at *;clear hKK;go_wp2_with fail;go_loopw [12] (MkR w11 b pa qa KK kc sa) (fun v _ => 70 - (intOf v).toNat);case atStart => exact ⟨0, _, _, rfl, by show (0 : Int) ≠ 11; decide, rem_le _ _, HMK.out, X, A, Fr.refl _ _⟩
    · skip
      clear HMK X A
      obtain ⟨i, x, s1, rfl, hl11, hre, hB, X2, A2, F2⟩ := hrel
      have hrp := rem_pos hB.hx hl11
      have hgo := hB.go
      have HS1 := q9 (lstep_any hB.hx.ln X2 A2 HN.out.1)
      have HF := q9 F2
      have HB2 := q9 hgo
      have HRE := q9 hre
      have hi60 : i < 60 := by omega
      have q4 : decide ((i : Int) < 60) = true := by simp; omega
      clear hl11 hrp hre hB X2 A2 F2 hgo
      generalize x.go s1 = r2 at *
      go_wp2_with fail
      refine HS1.out.mono ?_; rintro e w16 ⟨rfl, X3, A3, F3⟩
      have HF4 := q9 (HF.out.trans F3)
      clear HF F3 HS1
      by_cases h11 : r2.1.ln = 11
      case neg =>
        have q5 : decide (r2.1.ln = 11) = false := by simp [h11]
        have HN11 := q9 h11
        clear h11
        go_wp2_with fail
        go_roundw
        case rel => exact ⟨i + 1, r2.1, r2.2, by simp, HN11.out, by have h1 := HB2.out.2; have := HRE.out; omega, HB2.out.1, X3, A3, HF4.out⟩
        case measure => simp [intOf]; omega
      have q5 : decide (r2.1.ln = 11) = true := by simp [h11]
      obtain ⟨x, s2⟩ := r2
      have HB := q9 (show MkI KK kc sa x s2 from HB2.out.1)
      have HL := q9 (show x.ln = 11 from h11)
      have HV1 := q9 (lchk_any (y := x) X3)
      have HA := q9 (show Ar w16 pa qa s2 from A3)
      have HGG := q9 (HG.out.own HF4.out (by simp; exact HN.out.2.1))
      have HOO := q9 (HO.out.kept HF4.out (by simp; exact HN.out.2.2.1))
      have HRR := q9 (HRr.out.kept HF4.out (by simp; exact HN.out.2.2.2.1) (by simp; exact HN.out.2.2.2.2))
      have hd := HB.out.done HL.out
      have hlb := HB.out.W.al _ hd.2.1
      have hlz := HB.out.W.sz
      have hmb : x.rm ≠ 0 → 2 ≤ x.rm ∧ x.rm + 6 < (s2.l.length : Int) := fun e => HB.out.W.al _ (hd.2.2.2.2.2.1 e).1
      have HD := q9 hd
      have HB0 := q9 HB.out.W
      have HWO := q9 (fun (a i : Int) (ha : KK a) (hi : 0 ≤ i ∧ i < z6 c) (hc : qw s2.l (a + i) ≠ qw sa.l (a + i)) => HB.out.word HL.out HIJ.out (by have := HC0.out.c2; have := HC0.out.t1; unfold z6; omega) ha hi hc)
      clear h11 X3 A3 HF4 HG HO HRr HB2 HRE hd HIJ hi60 q4
      have HHL := HL
      clear HL HB
      generalize x.rl = rl at *
      generalize x.rm = rm at *
      generalize x.ra = ra at *
      have q0 : (rl == 0) = false := by simp; omega
      have w2 : wrap64 (rl + 2) = rl + 2 := w64 A0e A0e
      have w3 : wrap64 (rl + 3) = rl + 3 := w64 A0e A0e
      have w4 : wrap64 (rl + 4) = rl + 4 := w64 A0e A0e
      have HP := q9 (show Jw (qw s2.l (rl + 2)) = true ∧ qw s2.l (rl + 3) = rl ∧ (qw s2.l (rl + 4) == 0) = false by
        refine ⟨?_, HD.out.2.2.2.1, ?_⟩
        · unfold Jw; exact decide_eq_true HD.out.2.2.1
        · have : qw s2.l (rl + 4) ≠ 0 := HD.out.2.2.2.2.1
          simpa using this)
      generalize hv4 : qw s2.l (rl + 4) = v4 at *
      have HV4 := q9 hv4
      clear hv4
      have qs : (rl != rl) = false := by simp
      have q40_u : (v4 == 0) = false := HP.out.2.2
      obtain ⟨c0, c1, c2, c3⟩ := Pl.yu HOO.out
      have hn : c.c = ((c.c.toNat : Nat) : Int) := by have := HC0.out.c2; have := HC0.out.t1; omega
      have HNN := q9 hn
      have hall := rall_any c.t c.wd c.v c.c.toNat pr qr s w16 HC0.out.t1 HC0.out.t8 (by have := HC0.out.c2; have := HC0.out.t1; omega) (by have := HC0.out.c16; omega) HRR.out
      rw [← hn] at hall
      have HALL := q9 hall
      clear hn hall
      go_wp2_with fail
      refine HV1.out.mono ?_; rintro e _ ⟨rfl, rfl⟩
      go_upto_region 13 with fail
      go_cut [113] from 48 to 113 (fun v wx => v = .bool false ∧ wx = w16)
      case first =>
        go_wp2_with fail
        refine (Ar.yx _ pa qa _ _ HA.out).mono ?_; rintro e _ ⟨rfl, rfl⟩
        go_wp2_with fail
        refine (Mx.Yh _ _).mono ?_; rintro e _ ⟨rfl, rfl⟩
        rw [HP.out.1]
        go_wp2_with fail
        refine (Ar.yx _ pa qa _ _ HA.out).mono ?_; rintro e _ ⟨rfl, rfl⟩
        rw [HP.out.2.1]
        go_wp2_with fail
        refine (Ar.yx _ pa qa _ _ HA.out).mono ?_; rintro e _ ⟨rfl, rfl⟩
        rw [HV4.out]
        rcases Int.decEq rm 0 with hm | hm
        case isFalse =>
          have qm : (rm != 0) = true := by simp [hm]
          have hb2 := hmb hm
          have u2 : wrap64 (rm + 2) = rm + 2 := w64 A0e A0e
          have u3 : wrap64 (rm + 3) = rm + 3 := w64 A0e A0e
          have hdm := HD.out.2.2.2.2.2.1 hm
          have HP2 := q9 (show Jw (qw s2.l (rm + 2)) = true ∧ qw s2.l (rm + 3) = rl ∧ (v4 != rm) = false by
            refine ⟨?_, hdm.2.2.1, ?_⟩
            · unfold Jw; exact decide_eq_true hdm.2.1
            · have : v4 = rm := HV4.out.symm.trans hdm.2.2.2
              simp [this])
          have qvm := HP2.out.2.2
          clear hm hb2 hdm
          go_wp2_with fail
          refine (Ar.yx _ pa qa _ _ HA.out).mono ?_; rintro e _ ⟨rfl, rfl⟩
          go_wp2_with fail
          refine (Mx.Yh _ _).mono ?_; rintro e _ ⟨rfl, rfl⟩
          rw [HP2.out.1]
          go_wp2_with fail
          refine (Ar.yx _ pa qa _ _ HA.out).mono ?_; rintro e _ ⟨rfl, rfl⟩
          rw [HP2.out.2.1]
          go_wp2_with fail
          refine (Ar.yx _ pa qa _ _ HA.out).mono ?_; rintro e _ ⟨rfl, rfl⟩
          rw [HV4.out]
          go_wp2_with fail
          go_meet
          exact ⟨rfl, rfl⟩
        case isTrue =>
          have qm : (rm != 0) = false := by simp [hm]
          clear hm
          go_wp2_with fail
          go_meet
          exact ⟨rfl, rfl⟩
      case rest =>
        obtain ⟨rfl, hwc⟩ := hcut
        have hwc' := hwc.symm
        subst hwc'
        go_wp2_with fail
        refine HALL.out.mono ?_; rintro e w17 ⟨⟨uu, rfl, hu⟩, F17⟩
        have hAK := HAK.out
        generalize q93 (qw s.l) s.l.length c.c.toNat c.t = L at *
        have HAL := q9 hAK
        have HF17 := q9 F17
        obtain ⟨a2, k2, rfl, hk2, hm2, hh⟩ := Sq.own (f := fN) hu
        have HH := q9 hh
        have hcb : 2 ≤ c.c ∧ c.c ≤ 16 := ⟨by have := HC0.out.c2; have := HC0.out.t1; omega, HC0.out.c16⟩
        clear c0 c1 c2 c3 hAK F17 hu hh HALL HAK
        unfold maxLen at hm2
        have hm3 : L.length ≤ 9223372036854775807 := by omega
        clear hk2 hm2
        go_wp2_with fail
        go_loopw [17] (MkL w17 L.length) (fun v _ => L.length + 1 - (intOf v).toNat)
        case atStart => exact ⟨0, rfl, Nat.zero_le _, Fr.refl _ _⟩
        · skip
          obtain ⟨i, rfl, hi, F2⟩ := hrel
          have HF2 := q9 (HF17.out.trans F2)
          have HFO := q9 F2
          clear F2
          by_cases hiL : i < L.length
          case neg =>
            have q5 : decide ((i : Int) < (L.length : Int)) = false := by simp; omega
            have q6 : decide (i < L.length) = false := by simp; omega
            clear hiL hi
            go_wp2_with fail
            go_ret
            exact ⟨rfl, HGG.out.trans HF2.out⟩
          have q5 : decide ((i : Int) < (L.length : Int)) = true := by simp; omega
          have q6 : decide (i < L.length) = true := by simp; omega
          have hx : L[i]? = some (L[i]'hiL) := List.getElem?_eq_getElem hiL
          generalize L[i]'hiL = x0 at *
          have hxK := HAL.out x0 (List.mem_of_getElem? hx)
          have hxb := HB0.out.al _ hxK
          obtain h0' | ⟨gb, off, rfl, hg, hcell⟩ := HH.out
          · omega
          have HCELL := q9 (hcell i _ (fN_get hx))
          have HXK := q9 hxK
          clear hcell hx hxK
          go_wp2_with fail
          go_loopw [18] (MkL wr (7 + 3 * c.c).toNat) (fun v _ => (7 + 3 * c.c).toNat + 1 - (intOf v).toNat)
          case atStart => exact ⟨0, rfl, Nat.zero_le _, Fr.refl _ _⟩
          · skip
            obtain ⟨u, rfl, hu, F3⟩ := hrel
            have HF3 := q9 (HF2.out.trans F3)
            have HF3' := q9 F3
            clear F3
            obtain ⟨c0, c1, c2, c3⟩ := Pl.yu (HOO.out.up HF3.out)
            go_wp2_with fail
            refine (Ref.Zq c.t c.c c.wd c.v A0e A0e _).mono ?_; rintro e w18 ⟨rfl, F18⟩
            have HF18 := q9 (HF3'.out.trans F18)
            have HFF := q9 (HF3.out.trans F18)
            clear c0 c1 c2 c3 F18 HF3 HF3'
            by_cases huS : (u : Int) < 7 + 3 * c.c
            case neg =>
              have q7 : decide ((u : Int) < 7 + 3 * c.c) = false := by simp; omega
              clear huS
              go_wp2_with fail
              go_roundw
              case rel => exact ⟨i + 1, by simp, by omega, HFO.out.trans HF18.out⟩
              case measure => simp [intOf]; omega
            have q7 : decide ((u : Int) < 7 + 3 * c.c) = true := by simp; omega
            have HA18 := q9 (HA.out.kept HFF.out A0h A0h)
            have HR18 := q9 (HRR.out.kept HFF.out A0h A0h)
            have xc_u := (HFO.out.trans HF18.out).cell HCELL.out A0h
            have hwr : wrap64 (x0 + (u : Int)) = x0 + u := w64 A0e A0e
            by_cases hv : qw s2.l (x0 + (u : Int)) = qw s.l (x0 + (u : Int))
            case pos =>
              have qv : (qw s2.l (x0 + (u : Int)) == qw s.l (x0 + (u : Int))) = true := by simp [hv]
              clear hv
              go_wp2_with fail
              have kx := qb xc_u
              dsimp only [List.append]
              refine R5 A0g A0g ?_
              repeat (go_big_quiet_step ((first | (go_at_call 14; exact Calls.in_same (Ar.yx _ pa qa s2 _ (HA18.out.kept (In.fr _) A0h A0h))) | (go_at_call 19; exact Calls.in_same (Ref.yx _ pr qr s _ (HR18.out.kept (In.fr _) A0h A0h))))))
              refine wpQuiet_nil ?_
              intro w19 F19
              clear kx xc_u
              go_wp2_with fail
              go_roundw
              case rel => exact ⟨u + 1, by simp, by omega, HF18.out.trans F19⟩
              case measure => simp [intOf]; omega
            have qv : (qw s2.l (x0 + (u : Int)) == qw s.l (x0 + (u : Int))) = false := by simpa using hv
            have hw := HWO.out x0 u HXK.out (by unfold z6; omega) (by rw [HSL.out]; exact hv)
            clear hv
            have hl8 : (x0 = rl ∧ (u = 2 ∨ u = 4 ∨ u = 3)) ∨ (x0 ≠ rl ∧ x0 = kc ∧ u = 3) ∨ (x0 ≠ rl ∧ x0 ≠ kc ∧ v4 = x0 ∧ u = 3) ∨ (x0 ≠ rl ∧ x0 = kc ∧ v4 = x0 ∧ u = 2 ∧ rm = x0) ∨ (x0 ≠ rl ∧ x0 ≠ kc ∧ v4 = x0 ∧ u = 2 ∧ rm = x0) := by
              rw [show Fw_u s2 rl 4 = v4 from HV4.out] at hw
              by_cases e1 : x0 = rl
              · refine .inl ⟨e1, ?_⟩
                rcases hw with ⟨-, k⟩ | ⟨-, k⟩ | ⟨-, k⟩ <;> omega
              · by_cases e2 : x0 = kc
                · rcases hw with ⟨k, -⟩ | ⟨-, k⟩ | ⟨k1, k | ⟨k, k2⟩⟩
                  · exact absurd k e1
                  · exact .inr (.inl ⟨e1, e2, by omega⟩)
                  · exact .inr (.inl ⟨e1, e2, by omega⟩)
                  · exact .inr (.inr (.inr (.inl ⟨e1, e2, k1, by omega, k2⟩)))
                · rcases hw with ⟨k, -⟩ | ⟨k, -⟩ | ⟨k1, k | ⟨k, k2⟩⟩
                  · exact absurd k e1
                  · exact absurd k e2
                  · exact .inr (.inr (.inl ⟨e1, e2, k1, by omega⟩))
                  · exact .inr (.inr (.inr (.inr ⟨e1, e2, k1, by omega, k2⟩)))
            clear hw
            rcases hl8 with ⟨z1, z2 | z2 | z2⟩ | ⟨z1, z2, z3⟩ | ⟨z1, z2, z3, z4⟩ | ⟨z1, z2, z3, z4, z5⟩ | ⟨z1, z2, z3, z4, z5⟩
            · have p1 : (x0 == rl) = true := by simp [z1]
              have p2 : ((u : Int) == 2) = true := by simp; omega
              clear z1 z2
              go_wp2_with fail
              have kx := qb xc_u
              dsimp only [List.append]
              refine R5 A0g A0g ?_
              repeat (go_big_quiet_step ((first | (go_at_call 14; exact Calls.in_same (Ar.yx _ pa qa s2 _ (HA18.out.kept (In.fr _) A0h A0h))) | (go_at_call 19; exact Calls.in_same (Ref.yx _ pr qr s _ (HR18.out.kept (In.fr _) A0h A0h))))))
              refine wpQuiet_nil ?_
              intro w19 F19
              clear kx xc_u
              go_wp2_with fail
              go_roundw
              case rel => exact ⟨u + 1, by simp, by omega, HF18.out.trans F19⟩
              case measure => simp [intOf]; omega
            · have p1 : (x0 == rl) = true := by simp [z1]
              have p2 : ((u : Int) == 2) = false := by simp; omega
              have p3 : ((u : Int) == 4) = true := by simp; omega
              clear z1 z2
              go_wp2_with fail
              have kx := qb xc_u
              dsimp only [List.append]
              refine R5 A0g A0g ?_
              repeat (go_big_quiet_step ((first | (go_at_call 14; exact Calls.in_same (Ar.yx _ pa qa s2 _ (HA18.out.kept (In.fr _) A0h A0h))) | (go_at_call 19; exact Calls.in_same (Ref.yx _ pr qr s _ (HR18.out.kept (In.fr _) A0h A0h))))))
              refine wpQuiet_nil ?_
              intro w19 F19
              clear kx xc_u
              go_wp2_with fail
              go_roundw
              case rel => exact ⟨u + 1, by simp, by omega, HF18.out.trans F19⟩
              case measure => simp [intOf]; omega
            · have p1 : (x0 == rl) = true := by simp [z1]
              have p2 : ((u : Int) == 2) = false := by simp; omega
              have p3 : ((u : Int) == 4) = false := by simp; omega
              have p4 : ((u : Int) == 3) = true := by simp; omega
              clear z1 z2
              go_wp2_with fail
              have kx := qb xc_u
              dsimp only [List.append]
              refine R5 A0g A0g ?_
              repeat (go_big_quiet_step ((first | (go_at_call 14; exact Calls.in_same (Ar.yx _ pa qa s2 _ (HA18.out.kept (In.fr _) A0h A0h))) | (go_at_call 19; exact Calls.in_same (Ref.yx _ pr qr s _ (HR18.out.kept (In.fr _) A0h A0h))))))
              refine wpQuiet_nil ?_
              intro w19 F19
              clear kx xc_u
              go_wp2_with fail
              go_roundw
              case rel => exact ⟨u + 1, by simp, by omega, HF18.out.trans F19⟩
              case measure => simp [intOf]; omega
            · have p1 : (x0 == rl) = false := by simp [z1]
              have p2 : (x0 == kc) = true := by simp [z2]
              have p3 : ((u : Int) == 3) = true := by simp; omega
              clear z1 z2 z3
              go_wp2_with fail
              have kx := qb xc_u
              dsimp only [List.append]
              refine R5 A0g A0g ?_
              repeat (go_big_quiet_step ((first | (go_at_call 14; exact Calls.in_same (Ar.yx _ pa qa s2 _ (HA18.out.kept (In.fr _) A0h A0h))) | (go_at_call 19; exact Calls.in_same (Ref.yx _ pr qr s _ (HR18.out.kept (In.fr _) A0h A0h))))))
              refine wpQuiet_nil ?_
              intro w19 F19
              clear kx xc_u
              go_wp2_with fail
              go_roundw
              case rel => exact ⟨u + 1, by simp, by omega, HF18.out.trans F19⟩
              case measure => simp [intOf]; omega
            · have p1 : (x0 == rl) = false := by simp [z1]
              have p2 : (x0 == kc) = false := by simp [z2]
              have p3 : (qw s2.l (rl + 4) == x0) = true := by simp [HV4.out, z3]
              have p4 : ((u : Int) == 3) = true := by simp; omega
              clear z1 z2 z3 z4
              go_wp2_with fail
              have kx := qb xc_u
              dsimp only [List.append]
              refine R5 A0g A0g ?_
              repeat (go_big_quiet_step ((first | (go_at_call 14; exact Calls.in_same (Ar.yx _ pa qa s2 _ (HA18.out.kept (In.fr _) A0h A0h))) | (go_at_call 19; exact Calls.in_same (Ref.yx _ pr qr s _ (HR18.out.kept (In.fr _) A0h A0h))))))
              refine wpQuiet_nil ?_
              intro w19 F19
              clear kx xc_u
              go_wp2_with fail
              go_roundw
              case rel => exact ⟨u + 1, by simp, by omega, HF18.out.trans F19⟩
              case measure => simp [intOf]; omega
            · have p1 : (x0 == rl) = false := by simp [z1]
              have p2 : (x0 == kc) = true := by simp [z2]
              have p3 : ((u : Int) == 3) = false := by simp; omega
              have p4 : (qw s2.l (rl + 4) == x0) = true := by simp [HV4.out, z3]
              have p5 : ((u : Int) == 2) = true := by simp; omega
              have p6 : (rm == x0) = true := by simp [z5]
              clear z1 z2 z3 z4 z5
              go_wp2_with fail
              have kx := qb xc_u
              dsimp only [List.append]
              refine R5 A0g A0g ?_
              repeat (go_big_quiet_step ((first | (go_at_call 14; exact Calls.in_same (Ar.yx _ pa qa s2 _ (HA18.out.kept (In.fr _) A0h A0h))) | (go_at_call 19; exact Calls.in_same (Ref.yx _ pr qr s _ (HR18.out.kept (In.fr _) A0h A0h))))))
              refine wpQuiet_nil ?_
              intro w19 F19
              clear kx xc_u
              go_wp2_with fail
              go_roundw
              case rel => exact ⟨u + 1, by simp, by omega, HF18.out.trans F19⟩
              case measure => simp [intOf]; omega
            · have p1 : (x0 == rl) = false := by simp [z1]
              have p2 : (x0 == kc) = false := by simp [z2]
              have p3 : (qw s2.l (rl + 4) == x0) = true := by simp [HV4.out, z3]
              have p4 : ((u : Int) == 3) = false := by simp; omega
              have p5 : ((u : Int) == 2) = true := by simp; omega
              have p6 : (rm == x0) = true := by simp [z5]
              clear z1 z2 z3 z4 z5
              go_wp2_with fail
              have kx := qb xc_u
              dsimp only [List.append]
              refine R5 A0g A0g ?_
              repeat (go_big_quiet_step ((first | (go_at_call 14; exact Calls.in_same (Ar.yx _ pa qa s2 _ (HA18.out.kept (In.fr _) A0h A0h))) | (go_at_call 19; exact Calls.in_same (Ref.yx _ pr qr s _ (HR18.out.kept (In.fr _) A0h A0h))))))
              refine wpQuiet_nil ?_
              intro w19 F19
              clear kx xc_u
              go_wp2_with fail
              go_roundw
              case rel => exact ⟨u + 1, by simp, by omega, HF18.out.trans F19⟩
              case measure => simp [intOf]; omega
end Go.Proofs.YtleclbldlladmaaGreat.Le_u
