/- Parts. -/
import Derived.Test.YthokjbikomjhgaaGreatDoorKab
import Derived.Test.YthokjbikomjhgaaGreatDoorKad
import Derived.Test.YthokjbikomjhgaaGreatDoorKac
import Derived.Test.YthokjbikomjhgaaGreatDoorVbg
import Derived.Test.YthokjbikomjhgaaGreatDoorKaa
import Derived.Test.YthokjbikomjhgaaGreatDoorVao
import Derived.Test.YthokjbikomjhgaaGreatDoorVan
set_option linter.unusedVariables false
set_option linter.unusedSimpArgs false
set_option maxRecDepth 100000
namespace Go.Proofs.YthokjbikomjhgaaGreatDoor.Lt_u
open Go.RowKit Go.Maps Go.Proofs.YthokjbikomjhgaaGreatDoor.Ar Go.Proofs.YthokjbikomjhgaaGreatDoor.Og Go.Proofs.YthokjbikomjhgaaGreatDoor.Ref Go.Proofs.YthokjbikomjhgaaGreatDoor.Mx Go.Proofs.YthokjbikomjhgaaGreatDoor.Wd Go.Proofs.YthokjbikomjhgaaGreatDoor.Dk_u
set_option linter.unusedVariables false
set_option linter.unusedSimpArgs false
theorem fr_part {S T : List Nat} {a b c : World} (h : Fr S a b) (k : Fr T b c) (hs : ∀ i, i ∈ T → i ∈ S ∨ a.heap.size ≤ i) : Fr S a c := by
  have z : Fr (S ++ T) a c := (h.mono (fun i hi => List.mem_append.2 (.inl hi))).trans (k.mono (fun i hi => List.mem_append.2 (.inr hi)))
  exact ⟨z.os, z.tape, z.output, z.size, fun j hj hn => z.block j hj (fun hm => by
    rcases List.mem_append.1 hm with e | e
    · exact hn e
    · rcases hs j e with q | q
      · exact hn q
      · omega)⟩
theorem laid_I {s s' : St} (h : Zq s.l) (k : Lay.Laid s s') : Zq s'.l := by
  rcases k with rfl | ⟨at_, v, h1, h2, h3, rfl⟩
  · exact h
  · intro p
    show I64 (qw (yl s.l at_ v) p)
    rw [Lp_u.pk_poke]
    split
    · exact ⟨by omega, by omega⟩
    · exact h p
theorem lok_line {x : Lok} (s : St) (h : 0 ≤ x.line ∧ x.line ≤ 7) : 0 ≤ (x.step s).1.line ∧ (x.step s).1.line ≤ 7 := by
  exact A07
/-- Where the loop over the steps stands. -/
def LtAt (W : World) (b m bd pa qa pf qf_u : Nat) (iv : Value) (wr : World) : Prop := ∃ (i n : Nat) (x : Lok) (s : St) (B : List Nat), iv = .int .i64 i ∧ i ≤ 400 ∧ n ≤ i ∧ Xr x ∧ LkS x ∧ (0 ≤ x.line ∧ x.line ≤ 7) ∧ Lp_u.rise x.l ∧ Zq s.l ∧ DkIs wr b m n x ∧ q0g wr B bd x ∧ (∀ k, k ∈ B → k = bd ∨ W.heap.size ≤ k) ∧ Ar wr pa qa s ∧ Rar wr pf qf_u s ∧ Fr [b, m, bd, pa, qa, pf, qf_u] W wr
/-- What stands behind the loop. -/
structure LtEnd (W : World) (b m bd pa qa pf qf_u n : Nat) (x : Lok) (s : St) (lv : Value) (wr : World) : Prop where
  D : DkIs wr b m n x
  n : n ≤ 1000
  L : vg wr bd (x.as lv)
  Q : Sq fT wr lv x.l
  r : Lp_u.rise x.l
  len : x.l.length ≤ 16
  A : Ar wr pa qa s
  R : Rar wr pf qf_u s
  F : Fr [b, m, bd, pa, qa, pf, qf_u] W wr
set_option maxRecDepth 100000 in
set_option maxHeartbeats 6400000 in
theorem tells11 (c : Cf) (rs : List (List O)) (ps ds : List Int) (ov pv dv : Value) (ss : List Sv) (R : List Nat) (k lo hi most : Int) (lv : Value) (n : Nat) (A V : Nat → Int) (hk : 0 ≤ k ∧ k ≤ 255) (hlh : -9223372036854775808 ≤ lo ∧ hi ≤ 9223372036854775807) (w : World) (t : Word.Tab w) (hP : Lay.Pks w lv n A V)
    (hS : q4k w (.agg #[.int .i64 c.t, .int .i64 c.c, .int .i64 c.wd, .int .i64 c.v, ov, pv, dv]) c rs ps ds ov pv dv ss R) :
    Calls Tryz.prog 4 #[.agg #[.int .i64 c.t, .int .i64 c.c, .int .i64 c.wd, .int .i64 c.v, ov, pv, dv], .int .u8 k, .int .i64 lo, .int .i64 hi, .int .i64 most, lv] w fun e w' => e = .returned (.bool true) ∧ Fr [] w w' := by
  have HS := q9 hS;have HPK := q9 hP;obtain ⟨va, vcap, rfl, hvm, -⟩ := hP;have F0 := (Fr.refl [] w).alloc (.cells #[.int .i64 c.t, .int .i64 c.c, .int .i64 c.wd, .int .i64 c.v, ov, pv, dv] 27);have o1 := Ob.new w 27 #[.int .i64 c.t, .int .i64 c.c, .int .i64 c.wd, .int .i64 c.v, ov, pv, dv];clear hS;go_enter Tryz.func4, Tryz.ntmps4;go_wp2_with fail;generalize World.alloc w _ = w0 at *;generalize hb1 : w.heap.size = b1 at *;refine (Dk_u.known_true w0 (Dk_u.tabK t F0 A0b)).mono ?_; rintro e w1 ⟨rfl, F1⟩;have G := F0.trans F1;replace o1 := o1.up F1;clear F0 F1;have HX := q9 (qc hb1 o1.lt);clear hb1;have d0 := Ob.cell (i := 0) o1 rfl;have d1 := Ob.cell (i := 1) o1 rfl;have d2 := Ob.cell (i := 2) o1 rfl;have d3 := Ob.cell (i := 3) o1 rfl;have d4 := Ob.cell (i := 4) o1 rfl;have d5 := Ob.cell (i := 5) o1 rfl;have d6 := Ob.cell (i := 6) o1 rfl;go_wp2_with fail;refine (wide_any c.t c.c c.wd c.v rs ps ds _ 300 _ (HS.out.scr.up G)).mono ?_; rintro e w2 ⟨rfl, F2⟩;replace G := G.trans F2;replace o1 := o1.up F2;clear d0 d1 d2 d3 d4 d5 d6 F2;have d0 := Ob.cell (i := 0) o1 rfl;have d1 := Ob.cell (i := 1) o1 rfl;have d2 := Ob.cell (i := 2) o1 rfl;have d3 := Ob.cell (i := 3) o1 rfl;have d4 := Ob.cell (i := 4) o1 rfl;have d5 := Ob.cell (i := 5) o1 rfl;have d6 := Ob.cell (i := 6) o1 rfl;cases hw : Uj c.t c.c c.wd c.v rs ps ds 300 with
  | true =>
   clear hw;exact A06
  | false =>
   have HW := q9 (qbz hw);clear hw;by_cases hn20 : n ≤ 20
   case neg =>
    have g1 : decide ((n : Int) > 20) = true := by simp; omega
    have g2 : decide ((20 : Int) < (n : Int)) = true := by simp; omega
    have g3 : decide (20 < n) = true := by simp; omega
    clear hn20;exact A06
   have g1 : decide ((n : Int) > 20) = false := by simp; omega
   have g2 : decide ((20 : Int) < (n : Int)) = false := by simp; omega
   have g3 : decide (n > 20) = false := by simp; omega
   have HT := q9 (qc t (qc hk hlh));clear t hk hlh hn20;go_wp2_with fail;refine (left_any c rs ps ds ov pv dv ss R _ _ (HS.out.up G) HW.out.2.2.2.2.2 A0o).mono ?_; rintro e w4 ⟨pr, qr, rfl, hpr, hqr, Hr, F4⟩;have HK := q9 (qbs HW.out.2.2.2.2.2).1;have hAI := runP_W ds HK.out (q8v ds HW.out.2.2.2.2.2) ps;have hLN := runP_len HK.out rs ds ps;generalize (q7x c rs ds ps).a = s at *;have HAI := q9 (qc hAI hLN);clear hAI hLN;replace G := G.trans F4;replace o1 := o1.up F4;clear F4 hpr hqr d0 d1 d2 d3 d4 d5 d6;go_wp2_with fail;refine (fresh_any pr qr s _ Hr).mono ?_; rintro e w5 ⟨pf, qf_u, rfl, hpf, hqf, Hf_u, F5⟩;have hGs0 := G.size;have hbl0 := o1.lt;have hrl := Hr.lt;have hlt5 := Hf_u.lt;replace G := G.trans F5;replace o1 := o1.up F5;clear Hr F5;go_wp2_with fail;refine (arena_any pf qf_u (q2h s.l) _ Hf_u).mono ?_; rintro e w6 ⟨pa, qa, rfl, hpa, hqa, Ha_u, F6⟩;have hGs := G.size;have hbl := o1.lt;replace Hf_u := Hf_u.kept F6 A0b A0b;replace G := G.trans F6;replace o1 := o1.up F6;have hGs6 := G.size;have hal := Ha_u.lt;have hfs : q2h (q2h s.l).l = q2h s.l := rfl;rw [hfs] at Ha_u;clear F6 hfs;have d0 := Ob.cell (i := 0) o1 rfl;have d1 := Ob.cell (i := 1) o1 rfl;have d2 := Ob.cell (i := 2) o1 rfl;have d3 := Ob.cell (i := 3) o1 rfl;have hk := HT.out.2.1;go_wp2_with fail;refine (Pick.q98 c HK.out k hk pf qf_u (q2h s.l) w6 Hf_u (by show (s.l.length : Int) = c.wd; exact HAI.out.2)).mono ?_; rintro e w6' ⟨⟨kc, rfl, hkc⟩, F6'⟩;replace G := G.trans F6';replace o1 := o1.up F6';replace Ha_u := Ha_u.kept F6' A0b A0b;replace Hf_u := Hf_u.kept F6' A0b A0b;have hs6 := F6'.size;clear F6' d0 d1 d2 d3 hkc hk;have d0 := Ob.cell (i := 0) o1 rfl;have d1 := Ob.cell (i := 1) o1 rfl;have d2 := Ob.cell (i := 2) o1 rfl;have d3 := Ob.cell (i := 3) o1 rfl;go_wp2_with fail;refine z7 A0a [] (fun w7 F7 => ?_);refine Z7 [true, true, true, true, true, true, false, true, true, true, true, true, true, false, false, false] 4 (n := 103) (listed' := #[true, true, true, true, true, true, false, true, true, true, true, true, true, false, false, false]) rfl A0a A0a A0a rfl A0a (fun _ _ d _ _ h => by cases d <;> exact h) F7 ?_;apply qg;refine ⟨fun wf Ff => ?_, ?_⟩
   · have k0 := qb (Ff.cell d0 A0b)
     have k1 := qb (Ff.cell d1 A0b)
     have k2 := qb (Ff.cell d2 A0b)
     have k3 := qb (Ff.cell d3 A0b)
     simp only [sel]
     repeat (go_big_quiet_step (fail))
     exact wpQuiet_nil rfl
   refine qcn 6 A0a rfl rfl (fun w8 F8 => ?_);have E8 := F7.trans F8;clear d0 d1 d2 d3 F7 F8;go_wp2_with fail;refine (dnew_any c kc lo hi most _).mono ?_; rintro e w9 ⟨b, m, rfl, hb, hmm, hbm, D, F9⟩;have E9 := E8.trans F9;have hs9 := E8.size;have hD9 := D.lt;go_wp2_with fail;refine ql ⟨E9, ?_⟩;refine qcn 13 A0a rfl rfl (fun w10 F10 => ?_);have E10 := E9.trans F10;have D10 := D.kept F10 A0b A0b;clear D F10 E8 F9 E9;go_wp2_with fail;refine (Kj c kc lo hi most _).mono ?_; rintro e w11 ⟨bd, rfl, hbd, Dd, F11⟩;have E11 := E10.trans F11;have hs11 := D10.lt;have D11 := D10.kept F11 A0b A0b;clear D10 F11 E10;go_wp2_with fail;refine ql ⟨E11, ?_⟩;refine Z7 [false, false, false, false, false, false, false, false, false, false, false, false, false, false, true, true] 0 (n := 103) (listed' := #[true, true, true, true, true, true, true, true, true, true, true, true, true, true, true, true]) rfl A0a A0a A0a rfl A0a (fun _ _ d _ _ h => by cases d <;> exact h) E11 ?_;apply qg;refine ⟨fun wf Ff => ?_, ?_⟩
   · simp only [sel]
     repeat (go_big_quiet_step (fail))
     exact wpQuiet_nil rfl
   refine zq A0a (fun w12 F12 => ?_);have ht := Dk_u.tabLt HT.out.1;have hl11 := Ob.lt Dd;have HN := q9 (show (b ≠ pa ∧ b ≠ qa ∧ b ≠ m ∧ m ≠ pa ∧ m ≠ qa) ∧ (bd ≠ pf ∧ bd ≠ qf_u) ∧ (pa ≠ pf ∧ pa ≠ qf_u ∧ qa ≠ pf ∧ qa ≠ qf_u) ∧ (b ≠ bd ∧ m ≠ bd ∧ b ≠ pf ∧ b ≠ qf_u ∧ m ≠ pf ∧ m ≠ qf_u ∧ bd ≠ pa ∧ bd ≠ qa) ∧ (2 ≠ b ∧ 2 ≠ m ∧ 2 ≠ bd ∧ 2 ≠ pa ∧ 2 ≠ qa ∧ 2 ≠ pf ∧ 2 ≠ qf_u) ∧ (w.heap.size ≤ b ∧ w.heap.size ≤ m ∧ w.heap.size ≤ bd ∧ w.heap.size ≤ pa ∧ w.heap.size ≤ qa ∧ w.heap.size ≤ pf ∧ w.heap.size ≤ qf_u) by omega);have HZ := q9 (show b < w11.heap.size ∧ m < w11.heap.size ∧ bd < w11.heap.size ∧ pa < w11.heap.size ∧ qa < w11.heap.size ∧ pf < w11.heap.size ∧ qf_u < w11.heap.size by omega);have HZ2 := q9 F12.size;have HG := q9 ((G.trans E11).trans F12);replace D11 := D11.kept F12 A0b A0b;have Ld := q0g.new (Ob.up Dd F12);have A0 := Ha_u.kept (E11.trans F12) A0b A0b;have Rr := Hf_u.kept (E11.trans F12) A0b A0b;clear Ha_u Hf_u G o1 hGs hbl hGs0 hbl0 hrl hlt5 hGs6 hal hpf hqf hpa hqa hb hmm hbm hbd hs9 hD9 hs11 ht E11 F12 hs6 hl11 Dd;have hA0 : Zq (q2h s.l).l := HAI.out.1;generalize q2h s.l = sa at *;go_wp2_with fail;go_loopw [18] (fun iv wr => LtAt w12 b m bd pa qa pf qf_u iv wr) (fun iv _ => 400 - (intOf iv).toNat);case atStart => exact ⟨0, 0, Lok.new c kc lo hi most, sa, [bd], rfl, by omega, Nat.le_refl _, Xr.new HK.out kc lo hi most, LkS.new c kc lo hi most HT.out.2.2, by show (0 : Int) ≤ 1 ∧ (1 : Int) ≤ 7; decide, List.Pairwise.nil, hA0, D11, Ld, fun k hk => by simp at hk; exact .inl hk, A0, Rr, Fr.refl _ _⟩
   case round =>
    obtain ⟨i, nn, x, s2, B, rfl, hi4, hnn, ok, ks, hln, hrs, hI, D2, L2, hB, A2, R2, F2⟩ := hrel;clear D11 Ld A0 Rr hA0;have hlen16 : x.l.length ≤ 16 := by have := ok.len; have := ok.i1; omega
    by_cases hi : i < 400
    case neg =>
     obtain ⟨lv', l1, l2, -, -, -⟩ := L2;have HE := q9 (LtEnd.mk D2 A0c l1 l2 hrs hlen16 A2 R2 F2);have q4 : decide ((i : Int) < 400) = false := by simp; omega
     clear ok ks hln hI D2 hB A2 R2 F2 l1 l2 hrs hlen16 hi hi4;obtain ⟨-, -, -, -, -, -, -, -, -, -, -, -, -, -, k14⟩ := qx HE.out.L;go_wp2_with fail;refine z7 A0a [] (fun w20 F20 => ?_);refine Z7 [true, false, true, true, true, true, false, false, false, false, false, false, false] 8 (n := 103) (listed' := #[true, false, true, true, true, true, false, false, false, false, false, false, false]) rfl A0a A0a A0a rfl A0a (fun _ _ d _ _ h => by cases d <;> exact h) F20 ?_;apply qg;refine ⟨fun wf Ff => ?_, ?_⟩
     · have j14 := qb (Ff.cell k14 A0b)
       simp only [sel]
       repeat (go_big_quiet_step (fail))
       exact wpQuiet_nil rfl
     refine qcn 1 A0a rfl rfl (fun w21 F21 => ?_);have E21 := F20.trans F21;clear k14 F20 F21;go_wp2_with fail;refine (ditems_any _ HE.out.r b m _ HE.out.n w21 (HE.out.D.kept E21 A0b A0b)).mono ?_; rintro e w22 ⟨u, rfl, hu, F22⟩;have E22 := E21.trans F22;have hu2 := Sq.own (f := fT) hu;clear hu;go_wp2_with fail;refine ql ⟨E22, ?_⟩;refine qcn 6 A0a rfl rfl (fun w23 F23 => ?_);have E23 := E22.trans F23;have hu3 := Sq.up hu2 F23;clear hu2 F22 E22;go_wp2_with fail;refine (Kp.sameItems_any _ _ u _ w23 A0n A0n hu3 (HE.out.Q.up E23)).mono ?_; rintro e w24 ⟨rfl, F24⟩;have E24 := E23.trans F24;rw [decide_eq_true rfl];clear hu3 F23 E23 F24;go_wp2_with fail;refine ql ⟨E24, ?_⟩;refine Z7 [false, false, false, false, false, false, false, true, true, true, true, true, true] 0 (n := 103) (listed' := #[true, true, true, true, true, true, true, true, true, true, true, true, true]) rfl A0a A0a A0a rfl A0a (fun _ _ d _ _ h => by cases d <;> exact h) E24 ?_;apply qg;refine ⟨fun wf Ff => ?_, ?_⟩
     · have Aa_u := HE.out.A.kept Ff A0b A0b
       have Ra_u := HE.out.R.kept Ff A0b A0b
       simp only [sel]
       repeat (go_big_quiet_step ((go_at_call 35; exact Calls.in_ (Al.alike_any _ pa qa pf qf_u _ (Aa_u.kept (In.fr _) A0b A0b) (Ra_u.kept (In.fr _) A0b A0b)))))
       exact wpQuiet_nil rfl
     refine zq A0a (fun w25 F25 => ?_);have E25 := E24.trans F25;go_wp2;go_ret;exact ⟨rfl, HG.out.own (HE.out.F.then E25) A0m⟩
    have q4 : decide ((i : Int) < 400) = true := by simp; omega
    have hBw : ∀ k, k ∈ B → k ≠ b ∧ k ≠ m ∧ k ≠ pa ∧ k ≠ qa ∧ k ≠ pf ∧ k ≠ qf_u ∧ k ≠ 2 := by
     intro k hk;have h2 := HZ.out; have h3 := HZ2.out; have h4 := Dk_u.tabLt HT.out.1; have h5 := HG.out.size;rcases hB k hk with e | e
     · subst e
       exact ⟨HN.out.2.2.2.1.1.symm, HN.out.2.2.2.1.2.1.symm, HN.out.2.2.2.1.2.2.2.2.2.2.1, HN.out.2.2.2.1.2.2.2.2.2.2.2, HN.out.2.1.1, HN.out.2.1.2, HN.out.2.2.2.2.1.2.2.1.symm⟩
     · omega
    have HK1 := q9 (dstep_any x ok ks hln b m nn pa qa s2 (fun p => (hI p).2) wr (Dk_u.tabK (Dk_u.tabK HT.out.1 HG.out A0b) F2 (by simp; exact HN.out.2.2.2.2.1)) ⟨HN.out.2.2.2.2.1.2.2.2.1, HN.out.2.2.2.2.1.2.2.2.2.1⟩ A0c HN.out.1 D2 A2);have HI := q9 (qc hi (qc hnn (qc (ok.step s2) (qc (ks.step s2 (fun p => (hI p).2)) (qc (lok_line s2 hln) (qc (Lp_u.rise_step hrs s2) (qc (qe3 hI x) (qc hB hBw))))))));have HL2 := q9 (qc ok (qc L2 (qc R2 F2)));clear ok ks hln hI D2 L2 hB A2 R2 F2 hrs hlen16 hBw hi hi4 hnn;go_wp2_with fail;refine HK1.out.mono ?_; rintro e w13 ⟨rfl, ⟨n3, hn3, D3⟩, A3, F3⟩;have HS2 := q9 (q67 x HL2.out.1 B bd pf qf_u s2 w13 (HL2.out.2.1.kept F3 (fun k hk => by have q := HI.out.2.2.2.2.2.2.2.2 k hk; simp; exact ⟨q.1, q.2.1, q.2.2.1, q.2.2.2.1⟩)) (HL2.out.2.2.1.kept F3 (by simp; exact ⟨HN.out.2.2.2.1.2.2.1.symm, HN.out.2.2.2.1.2.2.2.2.1.symm, HN.out.2.2.1.1.symm, HN.out.2.2.1.2.2.1.symm⟩) (by simp; exact ⟨HN.out.2.2.2.1.2.2.2.1.symm, HN.out.2.2.2.1.2.2.2.2.2.1.symm, HN.out.2.2.1.2.1.symm, HN.out.2.2.1.2.2.2.symm⟩)) (fun hk => (HI.out.2.2.2.2.2.2.2.2 _ hk).2.2.2.2.1 rfl) (fun hk => (HI.out.2.2.2.2.2.2.2.2 _ hk).2.2.2.2.2.1 rfl));have HD3 := q9 (qc D3 (qc A3 (qc F3 hn3)));clear D3 A3 F3 hn3;go_wp2_with fail;refine HS2.out.mono ?_; rintro e w14 ⟨rfl, ⟨B', L4, hB'⟩, R4_u, F4⟩
    have hB4 : ∀ k, k ∈ B' → k = bd ∨ w12.heap.size ≤ k := by
     intro k hk;rcases hB' k hk with e | e
     · exact HI.out.2.2.2.2.2.2.2.1 k e
     · exact .inr (qh (qh HL2.out.2.2.2.size HD3.out.2.2.1.size) e)
    have D4 := HD3.out.1.kept F4 (fun hk => by
      simp only [List.mem_cons] at hk
      rcases hk with h | h | h
      · exact HN.out.2.2.2.1.2.2.1 h
      · exact HN.out.2.2.2.1.2.2.2.1 h
      · exact (HI.out.2.2.2.2.2.2.2.2 _ h).1 rfl) (fun hk => by
      simp only [List.mem_cons] at hk
      rcases hk with h | h | h
      · exact HN.out.2.2.2.1.2.2.2.2.1 h
      · exact HN.out.2.2.2.1.2.2.2.2.2.1 h
      · exact (HI.out.2.2.2.2.2.2.2.2 _ h).2.1 rfl)
    have A4 := HD3.out.2.1.kept F4 (fun hk => by
      simp only [List.mem_cons] at hk
      rcases hk with h | h | h
      · exact HN.out.2.2.1.1 h
      · exact HN.out.2.2.1.2.1 h
      · exact (HI.out.2.2.2.2.2.2.2.2 _ h).2.2.1 rfl) (fun hk => by
      simp only [List.mem_cons] at hk
      rcases hk with h | h | h
      · exact HN.out.2.2.1.2.2.1 h
      · exact HN.out.2.2.1.2.2.2 h
      · exact (HI.out.2.2.2.2.2.2.2.2 _ h).2.2.2.1 rfl)
    have HF4 := q9 (show Fr [b, m, bd, pa, qa, pf, qf_u] w12 w14 from fr_part (HL2.out.2.2.2.trans (HD3.out.2.2.1.mono A0b)) F4 (fun k hk => by
      simp only [List.mem_cons] at hk ⊢
      rcases hk with h | h | h
      · exact .inl (by simp [h])
      · exact .inl (by simp [h])
      · rcases HI.out.2.2.2.2.2.2.2.1 k h with e | e
        · exact .inl (by simp [e])
        · exact .inr e))
    have HX3 := q9 (qc HI.out.2.2.1 (qc HI.out.2.2.2.1 (qc HI.out.2.2.2.2.1 (qc HI.out.2.2.2.2.2.1 (qc HI.out.2.2.2.2.2.2.1 (qc HI.out.1 (qc HI.out.2.1 HD3.out.2.2.2)))))));have HB4 := q9 (qc hB4 L4);clear HS2 HK1 F4 HD3 HI HL2 hB' hB4 L4;generalize (x.step s2).1 = x3 at *;generalize (x.step s2).2 = s3 at *;have hi4 := HX3.out.2.2.2.2.2.1;have hbb : (decide (x3.line = 0) != decide (x3.line = 0)) = false := by cases decide (x3.line = 0) <;> rfl
    obtain ⟨cap, hcap, r0, r1, r2', r3, r4, r5, r6, hc⟩ := Ref.Qk R4_u;have i1 := qb r1;have i2 := qb r2';have i3 := qb r3;have i4 := qb r4;have i5 := qb r5;have i6 := qb r6;have HQ := q9 (qc D4 (qc A4 R4_u));clear r0 r1 r2' r3 r4 r5 r6 hc hcap;have hG := Al.q8s;have hne := Al.qam s3.a.kind s3.a.at_ s3.a.old s3.a.new s3.a.kind s3.a.at_ s3.a.old s3.a.new s3.a.ok s3.a.ok;simp only [beq_self_eq_true, Bool.and_self, Bool.not_true] at hne;clear D4 R4_u;by_cases hz : x3.line = 0
    · rw [decide_eq_true hz] at hbb ⊢
      clear hz
      go_wp2_with fail
      refine R7 A0a A0a ?_
      repeat (go_big_quiet_step ((first | (go_at_call 30; exact Calls.in_same (Rn _ pa qa s3 (A4.kept (In.fr _) A0b A0b))) | (go_at_call 31; exact Calls.in_ (Ar.qc7 _ pa qa s3 _ _ _ _ _ (A4.kept (In.fr _) A0b A0b) rfl)))))
      refine wpQuiet_nil ?_
      intro w15 F15
      clear i1 i2 i3 i4 i5 i6 hne hG hbb A4
      obtain ⟨lv', l1, l2, -, -, -⟩ := HB4.out.2
      have HE := q9 (LtEnd.mk (HQ.out.1.kept F15 A0b A0b) (by have := HX3.out; omega) (Ob.up l1 F15) (l2.up F15) HX3.out.2.2.2.1 (by have h1 := HX3.out.1.len; have h2 := HX3.out.1.i1; omega) (HQ.out.2.1.kept F15 A0b A0b) (HQ.out.2.2.kept F15 A0b A0b) (HF4.out.then F15))
      clear l1 l2 F15 hi4 q4
      obtain ⟨-, -, -, -, -, -, -, -, -, -, -, -, -, -, k14⟩ := qx HE.out.L
      go_wp2_with fail
      refine z7 A0a [] (fun w20 F20 => ?_)
      refine Z7 [true, false, true, true, true, true, false, false, false, false, false, false, false] 8 (n := 103) (listed' := #[true, false, true, true, true, true, false, false, false, false, false, false, false]) rfl A0a A0a A0a rfl A0a (fun _ _ d _ _ h => by cases d <;> exact h) F20 ?_
      apply qg
      refine ⟨fun wf Ff => ?_, ?_⟩
      · have j14 := qb (Ff.cell k14 A0b)
        simp only [sel]
        repeat (go_big_quiet_step (fail))
        exact wpQuiet_nil rfl
      refine qcn 1 A0a rfl rfl (fun w21 F21 => ?_)
      have E21 := F20.trans F21
      clear k14 F20 F21
      go_wp2_with fail
      refine (ditems_any _ HE.out.r b m _ HE.out.n w21 (HE.out.D.kept E21 A0b A0b)).mono ?_; rintro e w22 ⟨u, rfl, hu, F22⟩
      have E22 := E21.trans F22
      have hu2 := Sq.own (f := fT) hu
      clear hu
      go_wp2_with fail
      refine ql ⟨E22, ?_⟩
      refine qcn 6 A0a rfl rfl (fun w23 F23 => ?_)
      have E23 := E22.trans F23
      have hu3 := Sq.up hu2 F23
      clear hu2 F22 E22
      go_wp2_with fail
      refine (Kp.sameItems_any _ _ u _ w23 A0n A0n hu3 (HE.out.Q.up E23)).mono ?_; rintro e w24 ⟨rfl, F24⟩
      have E24 := E23.trans F24
      rw [decide_eq_true rfl]
      clear hu3 F23 E23 F24
      go_wp2_with fail
      refine ql ⟨E24, ?_⟩
      refine Z7 [false, false, false, false, false, false, false, true, true, true, true, true, true] 0 (n := 103) (listed' := #[true, true, true, true, true, true, true, true, true, true, true, true, true]) rfl A0a A0a A0a rfl A0a (fun _ _ d _ _ h => by cases d <;> exact h) E24 ?_
      apply qg
      refine ⟨fun wf Ff => ?_, ?_⟩
      · have Aa_u := HE.out.A.kept Ff A0b A0b
        have Ra_u := HE.out.R.kept Ff A0b A0b
        simp only [sel]
        repeat (go_big_quiet_step ((go_at_call 35; exact Calls.in_ (Al.alike_any _ pa qa pf qf_u _ (Aa_u.kept (In.fr _) A0b A0b) (Ra_u.kept (In.fr _) A0b A0b)))))
        exact wpQuiet_nil rfl
      refine zq A0a (fun w25 F25 => ?_)
      have E25 := E24.trans F25
      go_wp2
      go_ret
      exact ⟨rfl, HG.out.own (HE.out.F.then E25) A0m⟩
    · rw [decide_eq_false hz] at hbb ⊢
      clear hz
      go_wp2_with fail
      refine R7 A0a A0a ?_
      repeat (go_big_quiet_step ((first | (go_at_call 30; exact Calls.in_same (Rn _ pa qa s3 (A4.kept (In.fr _) A0b A0b))) | (go_at_call 31; exact Calls.in_ (Ar.qc7 _ pa qa s3 _ _ _ _ _ (A4.kept (In.fr _) A0b A0b) rfl)))))
      refine wpQuiet_nil ?_
      intro w15 F15
      clear i1 i2 i3 i4 i5 i6 hne hG hbb A4
      have HLy := q9 (Lay.lay_any pa qa pf qf_u s3 _ n A V i w15 (HQ.out.2.1.kept F15 A0b A0b) (HQ.out.2.2.kept F15 A0b A0b) (HPK.out.kept (w0 := w) (S := [b, m, bd, pa, qa, pf, qf_u]) (((HG.out.mono A0b).trans HF4.out).then F15) A0m) A0c HN.out.2.2.1)
      go_wp2_with fail
      refine HLy.out.mono ?_; rintro e w16 ⟨rfl, s4, hs4, A5, R5, F16⟩
      have D5 := (HQ.out.1.kept F15 A0b A0b).kept F16 (by simp; exact ⟨HN.out.1.1, HN.out.1.2.1, HN.out.2.2.2.1.2.2.1, HN.out.2.2.2.1.2.2.2.1⟩) (by simp; exact ⟨HN.out.1.2.2.2.1, HN.out.1.2.2.2.2, HN.out.2.2.2.1.2.2.2.2.1, HN.out.2.2.2.1.2.2.2.2.2.1⟩)
      have L5 := (HB4.out.2.kept F15 A0b).kept F16 (fun k hk => by
        have h2 := HZ.out; have h3 := HZ2.out
        rcases HB4.out.1 k hk with e | e
        · subst e; simp; exact ⟨HN.out.2.2.2.1.2.2.2.2.2.2.1, HN.out.2.2.2.1.2.2.2.2.2.2.2, HN.out.2.1.1, HN.out.2.1.2⟩
        · simp; omega)
      have HF5 := q9 ((HF4.out.then F15).trans (F16.mono A0d))
      have hI5 := laid_I HX3.out.2.2.2.2.1 hs4
      clear HLy F15 F16 HQ hs4
      go_wp2_with fail
      go_roundw
      case rel => exact ⟨i + 1, n3, x3, s4, B', by simp, by omega, by have := HX3.out; omega, HX3.out.1, HX3.out.2.1, HX3.out.2.2.1, HX3.out.2.2.2.1, hI5, D5, L5, HB4.out.1, A5, R5, HF5.out⟩
      case measure => simp [intOf]; omega
end Go.Proofs.YthokjbikomjhgaaGreatDoor.Lt_u
namespace Go.Proofs.YthokjbikomjhgaaGreatDoor.Lt_u
open Go.RowKit Go.Proofs.YthokjbikomjhgaaGreatDoor.Ar Go.Proofs.YthokjbikomjhgaaGreatDoor.Og Go.Proofs.YthokjbikomjhgaaGreatDoor.Ref Go.Proofs.YthokjbikomjhgaaGreatDoor.Mx Go.Proofs.YthokjbikomjhgaaGreatDoor.Wd
set_option linter.unusedVariables false
theorem pks_of {w:World} {v:Value} {len:Nat} {V:Nat→Nat→Value} (hI:Law.Recs w 2 v len V) (hV:∀ i,i<len→∀ j,j<2→∃ x:Int,V i j = .int .i64 x):Lay.Pks w v len (fun i=>intOf (V i 0)) (fun i=>intOf (V i 1)):=by
 obtain ⟨a,cap,rfl,hm,hh⟩:=hI;refine ⟨a,cap,rfl,hm,?_⟩;rcases hh with h0 | ⟨b,off,e,hb,hc⟩
 ·exact .inl h0
 ·refine .inr ⟨b,off,e,hb,fun i hi=>?_⟩;obtain ⟨x,hx⟩:=hV i hi 0 A0c;obtain ⟨y,hy⟩:=hV i hi 1 A0c;have h0:=hc i hi 0 A0c;have h1:=hc i hi 1 A0c;rw [hx] at h0;rw [hy] at h1;exact ⟨by show _=some (Value.int IntKind.i64 (intOf (V i 0)));rw [hx];exact h0,by show _=some (Value.int IntKind.i64 (intOf (V i 1)));rw [hy];exact h1⟩
set_option maxRecDepth 100000 in
theorem tells11_open {H:Type} {enc:TypeId×Value→H} {r:Reach} {b0:Nat} {d:DataW H} {p:List MemPlace} {s:Value} (k lo hi most:Int) (lv:Value) (len:Nat) (V:Nat→Nat→Value) (W:World) (t0:Word.Tab W) (hs:Value.okWide Tryz.prog W r b0 27 s) (h:DataW.Trod enc Tryz.prog W 0 (fun _=>true) true 27 s d p) (hk:0≤k∧k≤255) (hlh:-9223372036854775808≤lo∧hi≤9223372036854775807)
  (hI:Law.Recs W 2 lv len V) (hV:∀ i,i<len→∀ j,j<2→∃ x:Int,V i j = .int .i64 x) :
  Calls Tryz.prog 4 #[s,.int .u8 k,.int .i64 lo,.int .i64 hi,.int .i64 most,lv] W fun e w'=>e = .returned (.bool true)∧Fr [] W w':=by
 obtain ⟨t,c,wd,vv,vo,vp,vd,rs,ss,ps,ds,rfl,k1,k2,k3,k4,k5⟩:=Op10.open_scr hs h;exact tells11 ⟨t,c,wd,vv⟩ rs ps ds vo vp vd ss (List.range W.heap.size) k lo hi most lv len _ _ hk hlh W t0 (pks_of hI hV) (scr_in (c:=⟨t,c,wd,vv⟩) k1 k2 k3 k4 k5)
end Go.Proofs.YthokjbikomjhgaaGreatDoor.Lt_u
namespace Go.Proofs.YthokjbikomjhgaaGreatDoor.Lo
open Go.RowKit Go.Maps Go.Proofs.YthokjbikomjhgaaGreatDoor.Ar Go.Proofs.YthokjbikomjhgaaGreatDoor.Og Go.Proofs.YthokjbikomjhgaaGreatDoor.Ref Go.Proofs.YthokjbikomjhgaaGreatDoor.Mx Go.Proofs.YthokjbikomjhgaaGreatDoor.Wd Go.Proofs.YthokjbikomjhgaaGreatDoor.Dk_u
set_option linter.unusedVariables false
set_option linter.unusedSimpArgs false
theorem lok_line {x : Lok} (s : St) (h : 0 ≤ x.line ∧ x.line ≤ 7) : 0 ≤ (x.step s).1.line ∧ (x.step s).1.line ≤ 7 := by
  exact A07
theorem lok_still {x : Lok} (s : St) (h : x.line = 0) : x.step s = (x, s) := by
  unfold Lok.step Lok.live; rw [h]; rfl
/-- The words that a look goes over. -/
structure LoW (c : Cf) (L : List Int) (a n ck : Int) : Prop where
  h0 : 0 ≤ a
  h1 : a + 7 + 3 * c.c ≤ (L.length : Int)
  h2 : (L.length : Int) ≤ 20000
  cap : 0 ≤ c.c ∧ c.c ≤ 16
  hn : n = max 0 (min (qw L (a + 1)) c.c)
  hk : qw L 1 = ck
theorem LoW.n0 {c : Cf} {L : List Int} {a n ck : Int} (h : LoW c L a n ck) : 0 ≤ n ∧ n ≤ 16 := by have := h.hn; have := h.cap; omega
theorem LoW.again {c : Cf} {L L' : List Int} {a n ck : Int} (h : LoW c L a n ck) (hl : L'.length = L.length) (hw : ∀ j, qw L' j = Lp_u.want L a ck 0 63 n.toNat j) : LoW c L' a n ck := by
  have h0 := h.h0;refine ⟨h.h0, by rw [hl]; exact h.h1, by rw [hl]; exact h.h2, h.cap, ?_, ?_⟩
  · rw [hw, Lp_u.want_ne (fun k hk => by unfold Lp_u.stI; omega)]; exact h.hn
  · rw [hw, Lp_u.want_ne (fun k hk => by unfold Lp_u.stI; omega)]; exact h.hk
/-- Where a look stands behind so many steps. -/
structure LoK (c : Cf) (L : List Int) (a n ck : Int) (i nn : Nat) (x : Lok) (s : St) : Prop where
  ok : Xr x
  ks : LkS x
  ln : 0 ≤ x.line ∧ x.line ≤ 7
  r : Lp_u.rise x.l
  I : Zq s.l
  J : Lp_u.Jc_u L a c.c n ck 0 63 1073741824 x s
  rem : (i : Int) + Lp_u.remC n x ≤ 6 * n + 1
  nn : nn ≤ i
theorem LoK.new {c : Cf} (hc : c.Ok) {s : St} {a n ck : Int} (hI : Zq s.l) : LoK c s.l a n ck 0 0 (Lok.new c a 0 63 1073741824) s :=
  ⟨Xr.new hc _ _ _ _, LkS.new c _ _ _ _ ⟨by decide, by decide⟩, by show (0 : Int) ≤ 1 ∧ (1 : Int) ≤ 7; decide, List.Pairwise.nil, hI, Lp_u.Jc_u.new c, by unfold Lp_u.remC Lok.new; simp, Nat.le_refl _⟩
theorem LoK.lt {c : Cf} {L : List Int} {a n ck : Int} (w : LoW c L a n ck) {i nn : Nat} {x : Lok} {s : St} (h : LoK c L a n ck i nn x s) (hl : x.line ≠ 0) : i < 150 := by
  have h1 := h.J.rem w.n0.1 hl; have h2 := h.rem; have h3 := w.n0; omega
theorem LoK.step {c : Cf} {L : List Int} {a n ck : Int} (w : LoW c L a n ck) {i nn n2 : Nat} {x : Lok} {s : St} (h : LoK c L a n ck i nn x s) (hl : x.line ≠ 0) (hn : n2 ≤ nn + 1) : LoK c L a n ck (i + 1) n2 (x.step s).1 (x.step s).2 := by
  obtain ⟨j1, j2⟩ := Lp_u.Jc_u.step w.h0 w.h1 w.h2 w.cap w.hn w.hk h.J hl;exact ⟨h.ok.step s, h.ks.step s (fun p => (h.I p).2), lok_line s h.ln, Lp_u.rise_step h.r s, qe3 h.I x, j1, by have := h.rem; omega, by have := h.nn; omega⟩
theorem LoK.done {c : Cf} {L : List Int} {a n ck : Int} {i nn : Nat} {x : Lok} {s : St} (h : LoK c L a n ck i nn x s) (hl : x.line = 0) : (∀ j, qw s.l j = Lp_u.want L a ck 0 63 n.toNat j) ∧ x.l = Lp_u.its L a ck 0 63 1073741824 n.toNat ∧ s.l.length = L.length :=
  ⟨(h.J.done hl).1, (h.J.done hl).2, h.J.len⟩
def LoAt (W : World) (b m pa qa : Nat) (c : Cf) (L : List Int) (a n ck : Int) (iv : Value) (wr : World) : Prop := ∃ (i nn : Nat) (x : Lok) (s : St), iv = .int .i64 i ∧ LoK c L a n ck i nn x s ∧ x.line ≠ 0 ∧ DkIs wr b m nn x ∧ Ar wr pa qa s ∧ Fr [b, m, pa, qa] W wr
def LpAt (W : World) (n : Nat) (iv : Value) (wr : World) : Prop := ∃ i : Nat, iv = .int .i64 i ∧ i ≤ n ∧ Fr [] W wr
set_option maxRecDepth 100000 in
set_option maxHeartbeats 6400000 in
theorem once_any (c : Cf) (rs : List (List O)) (ps ds : List Int) (ov pv dv : Value) (ss : List Sv) (R : List Nat) (k : Int) (hk : 0 ≤ k ∧ k ≤ 255) (w : World) (t : Word.Tab w)
    (hS : q4k w (.agg #[.int .i64 c.t, .int .i64 c.c, .int .i64 c.wd, .int .i64 c.v, ov, pv, dv]) c rs ps ds ov pv dv ss R) :
    Calls Tryz.prog 6 #[.agg #[.int .i64 c.t, .int .i64 c.c, .int .i64 c.wd, .int .i64 c.v, ov, pv, dv], .int .u8 k] w fun e w' => e = .returned (.bool true) ∧ Fr [] w w' := by
  have HS := q9 hS;have F0 := (Fr.refl [] w).alloc (.cells #[.int .i64 c.t, .int .i64 c.c, .int .i64 c.wd, .int .i64 c.v, ov, pv, dv] 27);have o1 := Ob.new w 27 #[.int .i64 c.t, .int .i64 c.c, .int .i64 c.wd, .int .i64 c.v, ov, pv, dv];clear hS;go_enter Tryz.func6, Tryz.ntmps6;go_wp2_with fail;generalize World.alloc w _ = w0 at *;generalize hb1 : w.heap.size = b1 at *;refine (Dk_u.known_true w0 (Dk_u.tabK t F0 A0b)).mono ?_; rintro e w1 ⟨rfl, F1⟩;have G := F0.trans F1;replace o1 := o1.up F1;clear F0 F1;have HX := q9 (qc hb1 o1.lt);clear hb1;have d0 := Ob.cell (i := 0) o1 rfl;have d1 := Ob.cell (i := 1) o1 rfl;have d2 := Ob.cell (i := 2) o1 rfl;have d3 := Ob.cell (i := 3) o1 rfl;have d4 := Ob.cell (i := 4) o1 rfl;have d5 := Ob.cell (i := 5) o1 rfl;have d6 := Ob.cell (i := 6) o1 rfl;go_wp2_with fail;refine (wide_any c.t c.c c.wd c.v rs ps ds _ 400 _ (HS.out.scr.up G)).mono ?_; rintro e w2 ⟨rfl, F2⟩;replace G := G.trans F2;replace o1 := o1.up F2;clear d0 d1 d2 d3 d4 d5 d6 F2;have d0 := Ob.cell (i := 0) o1 rfl;have d1 := Ob.cell (i := 1) o1 rfl;have d2 := Ob.cell (i := 2) o1 rfl;have d3 := Ob.cell (i := 3) o1 rfl;have d4 := Ob.cell (i := 4) o1 rfl;have d5 := Ob.cell (i := 5) o1 rfl;have d6 := Ob.cell (i := 6) o1 rfl;cases hw : Uj c.t c.c c.wd c.v rs ps ds 400 with
  | true =>
   clear hw;exact A06
  | false =>
   have HW := q9 (qbz hw);clear hw;have HT := q9 (qc t hk);clear t hk;have HC0 := q9 (qbs HW.out.2.2.2.2.2).1;go_wp2_with fail;refine qp A0a ?_;refine za [] w2 #[true, true, true, true, true, false, false] 5 2 rfl ?_;refine envT_pass [true, true, true, false, false, false, false] 2 (n := 85) (listed' := #[true, true, true, false, false, false, false]) rfl A0a A0a A0a A0a A0a rfl A0a (fun _ _ d _ _ h => by cases d <;> exact h) ((Fr.refl _ w2).drew) ?_;apply qg;refine ⟨fun wf Ff => ?_, ?_⟩
   · have i0 := qb (Ff.cell d0 A0b)
     have i1 := qb (Ff.cell d1 A0b)
     have i2 := qb (Ff.cell d2 A0b)
     have i3 := qb (Ff.cell d3 A0b)
     have i4 := qb (Ff.cell d4 A0b)
     have i5 := qb (Ff.cell d5 A0b)
     have i6 := qb (Ff.cell d6 A0b)
     simp only [sel]
     repeat (go_big_quiet_step (fail))
     exact wpQuiet_nil rfl
   have HG := q9 G;clear d0 d1 d2 d3 d4 d5 d6 o1 G;refine jv [3, 4] A0a A0b (fun w3 F3 i hi o ho => ?_);have D3 := (Fr.refl [] w2).drew.trans F3;rcases (by simpa using hi : i = 3 ∨ i = 4) with rfl | rfl
   case' inl =>
    obtain rfl := qi ho;clear ho hi;go_wp2_with fail;refine (left_any c rs ps ds ov pv dv ss R _ _ (HS.out.up (HG.out.trans D3)) HW.out.2.2.2.2.2 A0o).mono ?_; rintro e w4 ⟨pr, qr, rfl, hpr, hqr, Hr, F4⟩;have D4 := D3.trans F4;go_wp2_with fail;refine ql ⟨D4, ?_⟩;refine q9j 4 A0a rfl rfl (fun w5 F5 => ?_);have D5 := D4.trans F5;have oz := Ob.new w5 23 #[.int .i64 0, .int .i64 0, .int .i64 0, .int .i64 0];have FA := (Fr.refl [] w5).alloc (.cells #[.int .i64 0, .int .i64 0, .int .i64 0, .int .i64 0] 23);have hbc := D5.size;have hne0 : pr ≠ w5.heap.size ∧ qr ≠ w5.heap.size := by have := Hr.lt; have := F5.size; omega
    go_wp2_with fail;generalize World.alloc w5 _ = w6 at *;generalize w5.heap.size = bc at *;refine ql ⟨D5.trans FA, ?_⟩;refine qy (k := 5) rfl A0a (fun w7 F7 => ?_);have o7 := oz.up F7;have E7 := F5.trans (FA.trans F7);replace Hr := Hr.kept E7 A0b A0b;have G := HG.out.trans (D4.trans E7)
   case' inr =>
    obtain rfl := qi ho;clear ho hi;have oz := Ob.new w3 23 #[.int .i64 0, .int .i64 0, .int .i64 0, .int .i64 0];have FA := (Fr.refl [] w3).alloc (.cells #[.int .i64 0, .int .i64 0, .int .i64 0, .int .i64 0] 23);have hbc := D3.size;go_wp2_with fail;generalize World.alloc w3 _ = w4 at *;generalize w3.heap.size = bc at *;refine ql ⟨D3.trans FA, ?_⟩;refine q9j 3 A0a rfl rfl (fun w5 F5 => ?_);have D5 := (D3.trans FA).trans F5;replace oz := oz.up F5;go_wp2_with fail;refine (left_any c rs ps ds ov pv dv ss R _ _ (HS.out.up (HG.out.trans D5)) HW.out.2.2.2.2.2 A0o).mono ?_; rintro e w6 ⟨pr, qr, rfl, hpr, hqr, Hr, F6⟩;have hne0 : pr ≠ bc ∧ qr ≠ bc := by have := oz.lt; omega
    go_wp2_with fail;refine ql ⟨D5.trans F6, ?_⟩;refine qy (k := 5) rfl A0a (fun w7 F7 => ?_);have o7 := (oz.up F6).up F7;replace Hr := Hr.kept F7 A0b A0b;have G := HG.out.trans ((D5.trans F6).trans F7)
   all_goals
     have hbw : w.heap.size ≤ bc := qh HG.out.size hbc
     have hbl := o7.lt
     have hrl := Hr.lt
     clear hpr hqr
     obtain ⟨z0, z1, z2, z3⟩ := Pl.yp o7
     have zf := o7.frozen
     have F8 : Fr [bc] w7 ((((w7.setCell ⟨bc, 0, none⟩ (.int .i64 c.t)).setCell ⟨bc, 1, none⟩ (.int .i64 c.c)).setCell ⟨bc, 2, none⟩ (.int .i64 c.wd)).setCell ⟨bc, 3, none⟩ (.int .i64 c.v)) := (((Fr.setCell (S := [bc]) (b := bc) _ A0b).setCell' (b := bc) _ A0b).setCell' (b := bc) _ A0b).setCell' (b := bc) _ A0b
     have o8 : Ob ((((w7.setCell ⟨bc, 0, none⟩ (.int .i64 c.t)).setCell ⟨bc, 1, none⟩ (.int .i64 c.c)).setCell ⟨bc, 2, none⟩ (.int .i64 c.wd)).setCell ⟨bc, 3, none⟩ (.int .i64 c.v)) bc 23 #[.int .i64 c.t, .int .i64 c.c, .int .i64 c.wd, .int .i64 c.v] := Ob.set (i := 3) (Ob.set (i := 2) (Ob.set (i := 1) (Ob.set (i := 0) o7 (.int .i64 c.t)) (.int .i64 c.c)) (.int .i64 c.wd)) (.int .i64 c.v)
     go_wp2_with fail
     clear z0 z1 z2 z3 zf o7
     generalize World.setCell (World.setCell (World.setCell (World.setCell w7 _ _) _ _) _ _) _ _ = w8 at *
     replace Hr := Hr.kept F8 (by simpa using hne0.1) (by simpa using hne0.2)
     have G8 := G.own F8 (by simpa using hbw)
     have hbc8 := o8.lt
     have hr8 := Hr.lt
     clear F8 G hbl hrl
     have hAI := runP_W ds HC0.out (q8v ds HW.out.2.2.2.2.2) ps
     have hLN := runP_len HC0.out rs ds ps
     generalize (q7x c rs ds ps).a = s at *
     have HAI := q9 (qc hAI hLN)
     clear hAI hLN
     refine (arena_any pr qr s _ Hr).mono ?_; rintro e w9 ⟨pa, qa, rfl, hpa, hqa, Ha_u, F9⟩
     have G9 := G8.trans F9
     have o9 := o8.up F9
     have Hr9 := Hr.kept F9 A0b A0b
     have hal := Ha_u.lt
     have hGs := G8.size
     clear G8 o8 F9 Hr
     obtain ⟨c0, c1, c2, c3⟩ := Pl.yp o9
     have hk := HT.out.2
     go_wp2_with fail
     refine (Pick.q98 c HC0.out k hk pr qr s _ Hr9 HAI.out.2).mono ?_; rintro e w10 ⟨⟨kc, rfl, hkc⟩, F10⟩
     have G10 := G9.trans F10
     have o10 := o9.up F10
     have Ha10 := Ha_u.kept F10 A0b A0b
     have hs10 := F10.size
     clear Ha_u F10 G9 o9 Hr9 c0 c1 c2 c3 hk
     obtain ⟨c0, c1, c2, c3⟩ := Pl.yp o10
     go_wp2_with fail
     refine z7 A0a [] (fun u1 F1 => ?_)
     refine Z7 [true, true, false, true, true, false, false, false] 4 (n := 85) (listed' := #[true, true, false, true, true, false, false, false]) rfl A0a A0a A0a rfl A0a (fun _ _ d _ _ h => by cases d <;> exact h) F1 ?_
     apply qg
     refine ⟨fun wf Ff => ?_, ?_⟩
     · have j0 := qb (Ff.cell c0 A0b)
       have j1 := qb (Ff.cell c1 A0b)
       have j2 := qb (Ff.cell c2 A0b)
       have j3 := qb (Ff.cell c3 A0b)
       simp only [sel]
       repeat (go_big_quiet_step (fail))
       exact wpQuiet_nil rfl
     refine qcn 2 A0a rfl rfl (fun u2 F2 => ?_)
     have E2 := F1.trans F2
     clear c0 c1 c2 c3 F1 F2
     go_wp2_with fail
     refine (dnew_any c kc 0 63 1073741824 _).mono ?_; rintro e u3 ⟨b, m, rfl, hb, hm, hbm, D, F3⟩
     have E3 := E2.trans F3
     have hs2 := E2.size
     have hD3 := D.lt
     go_wp2_with fail
     refine ql ⟨E3, ?_⟩
     refine qcn 5 A0a rfl rfl (fun u4 F4 => ?_)
     have E4 := E3.trans F4
     have hs4 := F4.size
     have D4 := D.kept F4 A0b A0b
     clear D E2 F3 E3 F4
     go_wp2_with fail
     refine (dnew_any c kc 0 63 1073741824 _).mono ?_; rintro e u5 ⟨b2, m2, rfl, hb2, hm2, hbm2, D2, F5⟩
     have E5 := E4.trans F5
     have D5 := D4.kept F5 A0b A0b
     clear D4 F5 E4
     go_wp2_with fail
     refine ql ⟨E5, ?_⟩
     refine Z7 [false, false, false, false, false, false, true, true] 0 (n := 85) (listed' := #[true, true, true, true, true, true, true, true]) rfl A0a A0a A0a rfl A0a (fun _ _ d _ _ h => by cases d <;> exact h) E5 ?_
     apply qg
     refine ⟨fun wf Ff => ?_, ?_⟩
     · simp only [sel]
       repeat (go_big_quiet_step (fail))
       exact wpQuiet_nil rfl
     refine zq A0a (fun u6 F6 => ?_)
     have ht := Dk_u.tabLt HT.out.1
     have HN := q9 (show (b ≠ pa ∧ b ≠ qa ∧ b ≠ m ∧ m ≠ pa ∧ m ≠ qa) ∧ (b2 ≠ pa ∧ b2 ≠ qa ∧ b2 ≠ m2 ∧ m2 ≠ pa ∧ m2 ≠ qa) ∧ (b ≠ b2 ∧ b ≠ m2 ∧ m ≠ b2 ∧ m ≠ m2) ∧ (2 ≠ b ∧ 2 ≠ m ∧ 2 ≠ b2 ∧ 2 ≠ m2 ∧ 2 ≠ pa ∧ 2 ≠ qa) ∧ (w.heap.size ≤ b ∧ w.heap.size ≤ m ∧ w.heap.size ≤ b2 ∧ w.heap.size ≤ m2 ∧ w.heap.size ≤ pa ∧ w.heap.size ≤ qa) by omega)
     have HG2 := q9 (G10.trans (E5.trans F6))
     have D6 := D5.kept F6 A0b A0b
     have Y6_u := D2.kept F6 A0b A0b
     have A6 := Ha10.kept (E5.trans F6) A0b A0b
     have HY := q9 Y6_u
     have HL := q9 (show LoW c (q2h s.l).l kc (max 0 (min (qw s.l (kc + 1)) c.c)) (qw s.l 1) from ⟨hkc.1, hkc.2, by show (s.l.length : Int) ≤ 20000; have := HAI.out.2; have := HC0.out.w2; omega, by have := HC0.out.c2; have := HC0.out.t1; have := HC0.out.c16; omega, rfl, rfl⟩)
     have hI6 : Zq (q2h s.l).l := HAI.out.1
     clear G10 o10 Ha10 hs10 hGs hal hpa hqa hbc8 hr8 hne0 hbw hkc hb hm hbm hb2 hm2 hbm2 D5 D2 E5 F6 hs2 hD3 hs4 ht Y6_u
     generalize max 0 (min (qw s.l (kc + 1)) c.c) = n at *
     generalize qw s.l 1 = ck at *
     generalize q2h s.l = sa at *
     go_wp2_with fail
     go_loopw [11] (fun iv wr => LoAt u6 b m pa qa c sa.l kc n ck iv wr) (fun iv _ => 200 - (intOf iv).toNat)
     case' atStart => exact ⟨0, 0, _, sa, rfl, LoK.new HC0.out hI6, by show (1 : Int) ≠ 0; decide, D6, A6, Fr.refl _ _⟩
     obtain ⟨i, nn, x, s2, rfl, hK, hl, D7, A7, F7⟩ := hrel
     have hi200 := hK.lt HL.out hl
     have q1 : decide ((i : Int) < 200) = true := by simp; omega
     have HS1 := q9 (dstep_any x hK.ok hK.ks hK.ln b m nn pa qa s2 (fun p => (hK.I p).2) wr (Dk_u.tabK (Dk_u.tabK HT.out.1 HG2.out A0b) F7 A0e) ⟨HN.out.2.2.2.1.2.2.2.2.1, HN.out.2.2.2.1.2.2.2.2.2⟩ (by have := hK.nn; omega) HN.out.1 D7 A7)
     have HK := q9 (qc hK (qc hl F7))
     clear hK hl D7 A7 F7 D6 A6 hI6
     go_wp2_with fail
     refine HS1.out.mono ?_; rintro e u7 ⟨rfl, ⟨n3, hn3, D8⟩, A8, F8⟩
     have HK2 := q9 (HK.out.1.step HL.out HK.out.2.1 hn3)
     have HF8 := q9 (HK.out.2.2.trans F8)
     clear HS1 HK F8 hn3
     generalize (x.step s2).1 = x3 at *
     generalize (x.step s2).2 = s3 at *
     by_cases hz : x3.line = 0
     case neg =>
       rw [decide_eq_false hz]
       have HZ := q9 hz
       clear hz
       go_wp2_with fail
       go_roundw
       case rel => exact ⟨i + 1, n3, x3, s3, by simp, HK2.out, HZ.out, D8, A8, HF8.out⟩
       case measure => simp [intOf]; omega
     rw [decide_eq_true hz]
     have HZ := q9 hz
     have HA8 := q9 (qc D8 A8)
     clear hz D8
     go_wp2_with fail
     refine (copy_any _ pa qa s3 A8).mono ?_; rintro e u8' ⟨pb, qb_u, rfl, hpb, hqb, Ab_u, F9⟩
     have hs9 := A8.lt
     have HB := q9 (show pb ≠ pa ∧ pb ≠ qa ∧ qb_u ≠ pa ∧ qb_u ≠ qa by omega)
     have hpbq : u7.heap.size ≤ pb ∧ u7.heap.size ≤ qb_u := ⟨hpb, hqb⟩
     have hY8 := HY.out.kept HF8.out A0j A0f
     have hb2l := hY8.lt
     have HB2 := q9 (show (pb ≠ b2 ∧ pb ≠ m2 ∧ qb_u ≠ b2 ∧ qb_u ≠ m2) by omega)
     have Y9_u := hY8.kept F9 A0b A0b
     have A9 := A8.kept F9 A0b A0b
     have HX9 := q9 (HA8.out.1.kept F9 A0b A0b)
     replace HF8 := q9 (HF8.out.then F9)
     obtain ⟨d1, d2, d3⟩ := HK2.out.done HZ.out
     have HL2 := q9 (HL.out.again d3 d1)
     have HD := q9 (qc d1 (qc d2 d3))
     have hI9 := HK2.out.I
     have HXK := q9 HK2.out
     have HAb := q9 Ab_u
     clear A8 F9 hpb hqb hs9 hpbq hY8 hb2l HA8 d1 d2 d3 HY HK2 Ab_u q1 hi200
     go_wp2_with fail
     go_loopw [13] (fun iv wr => LoAt u8' b2 m2 pa qa c s3.l kc n ck iv wr) (fun iv _ => 200 - (intOf iv).toNat)
     case' atStart => exact ⟨0, 0, _, s3, rfl, LoK.new HC0.out hI9, by show (1 : Int) ≠ 0; decide, Y9_u, A9, Fr.refl _ _⟩
     obtain ⟨i2, nn2, y, s4, rfl, hK, hl, D7, A7, F7⟩ := hrel
     have hi200 := hK.lt HL2.out hl
     have q1 : decide ((i2 : Int) < 200) = true := by simp; omega
     have HS1 := q9 (dstep_any y hK.ok hK.ks hK.ln b2 m2 nn2 pa qa s4 (fun p => (hK.I p).2) wr (Dk_u.tabK (Dk_u.tabK (Dk_u.tabK HT.out.1 HG2.out A0b) HF8.out A0e) F7 (by simp; exact ⟨HN.out.2.2.2.1.2.2.1, HN.out.2.2.2.1.2.2.2.1, HN.out.2.2.2.1.2.2.2.2.1, HN.out.2.2.2.1.2.2.2.2.2⟩)) ⟨HN.out.2.2.2.1.2.2.2.2.1, HN.out.2.2.2.1.2.2.2.2.2⟩ (by have := hK.nn; omega) HN.out.2.1 D7 A7)
     have HK := q9 (qc hK (qc hl F7))
     clear hK hl D7 A7 F7 Y9_u A9 hI9
     go_wp2_with fail
     refine HS1.out.mono ?_; rintro e u9 ⟨rfl, ⟨n4, hn4, D8⟩, A8, F8⟩
     have HK2 := q9 (HK.out.1.step HL2.out HK.out.2.1 hn4)
     have HF9 := q9 (HK.out.2.2.trans F8)
     clear HS1 HK F8 hn4
     generalize (y.step s4).1 = y3 at *
     generalize (y.step s4).2 = s5 at *
     by_cases hz2 : y3.line = 0
     case neg =>
       rw [decide_eq_false hz2]
       have HZ2 := q9 hz2
       clear hz2
       go_wp2_with fail
       go_roundw
       case rel => exact ⟨i2 + 1, n4, y3, s5, by simp, HK2.out, HZ2.out, D8, A8, HF9.out⟩
       case measure => simp [intOf]; omega
     rw [decide_eq_true hz2]
     have HZ2 := q9 hz2
     have HA9 := q9 (qc D8 (qc A8 (HAb.out.kept HF9.out (by simp; exact ⟨HB2.out.1, HB2.out.2.1, HB.out.1, HB.out.2.1⟩) (by simp; exact ⟨HB2.out.2.2.1, HB2.out.2.2.2, HB.out.2.2.1, HB.out.2.2.2⟩))))
     have HX10 := q9 (HX9.out.kept HF9.out (by simp; exact ⟨HN.out.2.2.1.1, HN.out.2.2.1.2.1, HN.out.1.1, HN.out.1.2.1⟩) (by simp; exact ⟨HN.out.2.2.1.2.2.1, HN.out.2.2.1.2.2.2, HN.out.1.2.2.2.1, HN.out.1.2.2.2.2⟩))
     have HW5 := q9 (show (∀ j, qw s5.l j = qw s3.l j) ∧ y3.l = x3.l from by
       obtain ⟨e1, e2, e3⟩ := HK2.out.done HZ2.out
       refine ⟨fun j => (e1 j).trans (Lp_u.want_again HD.out.1 n.toNat (Nat.le_refl _) j), ?_⟩
       rw [e2, HD.out.2.1]
       exact Lp_u.its_again HD.out.1 n.toNat (Nat.le_refl _))
     clear hz2 D8 A8 HX9 HAb hi200 q1
     go_wp2_with fail
     go_loopw [14] (fun iv wr => LpAt u9 s3.l.length iv wr) (fun iv _ => s3.l.length - (intOf iv).toNat)
     case' atStart => exact ⟨0, rfl, Nat.zero_le _, Fr.refl _ _⟩
     obtain ⟨j, rfl, hj, FJ⟩ := hrel
     have HAJ := q9 (qc (HA9.out.2.1.kept FJ A0b A0b) (qc (HA9.out.2.2.kept FJ A0b A0b) FJ))
     have hll := HL.out.h2
     have hl3 := HD.out.2.2
     have HLL := q9 (qc hll hl3)
     have hl20 : s3.l.length ≤ 20000 := by omega
     clear FJ hll hl3
     go_wp2_with fail
     refine (qbl _ pb qb_u s3 HAJ.out.2.1).mono ?_; rintro e _ ⟨rfl, rfl⟩
     by_cases hjl : j < s3.l.length
     · have q2 : decide ((j : Int) < (s3.l.length : Int)) = true := by simp; omega
       go_wp2_with fail
       refine (vk _ pa qa s5 _ HAJ.out.1).mono ?_; rintro e _ ⟨rfl, rfl⟩
       rw [HW5.out.1]
       go_wp2_with fail
       refine (vk _ pb qb_u s3 _ HAJ.out.2.1).mono ?_; rintro e _ ⟨rfl, rfl⟩
       have q3 : (qw s3.l (j : Int) != qw s3.l (j : Int)) = false := by simp
       generalize qw s3.l (j : Int) = pv at *
       go_wp2_with fail
       go_roundw
       case rel => exact ⟨j + 1, by simp, by omega, HAJ.out.2.2⟩
       case measure => simp [intOf]; omega
     · obtain rfl : j = s3.l.length := by omega
       have q2 : decide ((s3.l.length : Int) < (s3.l.length : Int)) = false := by simp
       have D1 := HX10.out.kept HAJ.out.2.2 A0b A0b
       have D2 := HA9.out.1.kept HAJ.out.2.2 A0b A0b
       have hnn3 : n3 ≤ 1000 := by have h1 := HXK.out.nn; have h2 := HXK.out.rem; have h3 := HL.out.n0; unfold Lp_u.remC at h2; rw [qf HZ.out] at h2; omega
       have hnn4 : n4 ≤ 1000 := by have h1 := HK2.out.nn; have h2 := HK2.out.rem; have h3 := HL.out.n0; unfold Lp_u.remC at h2; rw [qf HZ2.out] at h2; omega
       have hx16 : x3.l.length ≤ 16 := by have := HXK.out.ok.len; have := HXK.out.ok.i1; omega
       have HDD := q9 (qc D1 (qc D2 (qc hnn3 (qc hnn4 hx16))))
       clear D1 D2 hnn3 hnn4 hx16 hj hjl
       go_wp2_with fail
       refine (ditems_any x3 HXK.out.r b m n3 HDD.out.2.2.1 _ HDD.out.1).mono ?_; rintro e v1 ⟨ux, rfl, hux, G1⟩
       have hx1 := Sq.own (f := fT) hux
       clear hux
       go_wp2_with fail
       refine (ditems_any y3 HK2.out.r b2 m2 n4 HDD.out.2.2.2.1 _ (HDD.out.2.1.kept G1 A0b A0b)).mono ?_; rintro e v2 ⟨uy, rfl, huy, G2⟩
       have hy1 := Sq.own (f := fT) huy
       have hx2 := Sq.up hx1 G2
       rw [HW5.out.2] at hy1
       clear huy hx1
       go_wp2_with fail
       refine (Kp.sameItems_any x3.l x3.l ux uy v2 (by have := HDD.out.2.2.2.2; omega) (by have := HDD.out.2.2.2.2; omega) hx2 hy1).mono ?_; rintro e v3 ⟨rfl, G3⟩
       rw [decide_eq_true rfl]
       have GG := (G1.trans G2).trans G3
       have HV := q9 (qc (HDD.out.1.kept GG A0b A0b) (qc (HDD.out.2.1.kept GG A0b A0b) (qc (HAJ.out.1.kept GG A0b A0b) (HAJ.out.2.2.trans GG))))
       clear hx2 hy1 G1 G2 G3 GG
       go_wp2_with fail
       have HFF := q9 (show Fr [b, m, b2, m2, pa, qa] u6 v3 from (HF8.out.mono A0d).trans ((HF9.out.mono A0d).trans (HV.out.2.2.2.mono A0b)))
       have HTB := q9 (Dk_u.tabK (Dk_u.tabK HT.out.1 HG2.out A0b) HFF.out (by simp; exact ⟨HN.out.2.2.2.1.1, HN.out.2.2.2.1.2.1, HN.out.2.2.2.1.2.2.1, HN.out.2.2.2.1.2.2.2.1, HN.out.2.2.2.1.2.2.2.2.1, HN.out.2.2.2.1.2.2.2.2.2⟩))
       have hs1 := dstep_any x3 HXK.out.ok HXK.out.ks HXK.out.ln b m n3 pa qa s5 (fun p => (HK2.out.I p).2) v3 HTB.out ⟨HN.out.2.2.2.1.2.2.2.2.1, HN.out.2.2.2.1.2.2.2.2.2⟩ (by have := HDD.out.2.2.1; omega) HN.out.1 HV.out.1 HV.out.2.2.1
       rw [lok_still s5 HZ.out, show decide ((x3, s5).1.line = 0) = true from decide_eq_true HZ.out] at hs1
       have HS5 := q9 hs1
       clear hs1
       refine HS5.out.mono ?_; rintro e v4 ⟨rfl, -, A10, G4⟩
       have hs2 := dstep_any y3 HK2.out.ok HK2.out.ks HK2.out.ln b2 m2 n4 pa qa s5 (fun p => (HK2.out.I p).2) v4 (Dk_u.tabK HTB.out G4 A0e) ⟨HN.out.2.2.2.1.2.2.2.2.1, HN.out.2.2.2.1.2.2.2.2.2⟩ (by have := HDD.out.2.2.2.1; omega) HN.out.2.1 (HV.out.2.1.kept G4 A0j A0f) A10
       rw [lok_still s5 HZ2.out, show decide ((y3, s5).1.line = 0) = true from decide_eq_true HZ2.out] at hs2
       have HS6 := q9 hs2
       have HF10 := q9 (show Fr [b, m, b2, m2, pa, qa] u6 v4 from HFF.out.trans (G4.mono A0d))
       clear hs2 A10 G4 HS5
       go_wp2_with fail
       refine HS6.out.mono ?_; rintro e v5 ⟨rfl, -, A11, G5⟩
       have HF11 := q9 (HF10.out.trans (G5.mono A0d))
       clear A11 G5
       go_wp2
       go_ret
       exact ⟨rfl, HG2.out.own HF11.out (by have := HN.out.2.2.2.2; simp; omega)⟩
end Go.Proofs.YthokjbikomjhgaaGreatDoor.Lo
namespace Go.Proofs.YthokjbikomjhgaaGreatDoor.Lo
open Go.RowKit Go.Proofs.YthokjbikomjhgaaGreatDoor.Ar Go.Proofs.YthokjbikomjhgaaGreatDoor.Og Go.Proofs.YthokjbikomjhgaaGreatDoor.Ref Go.Proofs.YthokjbikomjhgaaGreatDoor.Mx Go.Proofs.YthokjbikomjhgaaGreatDoor.Wd
set_option linter.unusedVariables false
set_option maxRecDepth 100000 in
theorem once_open {H:Type} {enc:TypeId×Value→H} {r:Reach} {b0:Nat} {d:DataW H} {p:List MemPlace} {s:Value} (k:Int) (W:World) (t0:Word.Tab W) (hs:Value.okWide Tryz.prog W r b0 27 s) (h:DataW.Trod enc Tryz.prog W 0 (fun _=>true) true 27 s d p) (hk:0≤k∧k≤255) :
  Calls Tryz.prog 6 #[s,.int .u8 k] W fun e w'=>e = .returned (.bool true)∧Fr [] W w':=by
 obtain ⟨t,c,wd,vv,vo,vp,vd,rs,ss,ps,ds,rfl,k1,k2,k3,k4,k5⟩:=Op10.open_scr hs h;exact once_any ⟨t,c,wd,vv⟩ rs ps ds vo vp vd ss (List.range W.heap.size) k hk W t0 (scr_in (c:=⟨t,c,wd,vv⟩) k1 k2 k3 k4 k5)
end Go.Proofs.YthokjbikomjhgaaGreatDoor.Lo
