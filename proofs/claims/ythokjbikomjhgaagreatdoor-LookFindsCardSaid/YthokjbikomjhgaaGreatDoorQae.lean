/- Parts. -/
import Derived.Test.YthokjbikomjhgaaGreatDoorQab
import Derived.Test.YthokjbikomjhgaaGreatDoorQad
import Derived.Test.YthokjbikomjhgaaGreatDoorQac
import Derived.Test.YthokjbikomjhgaaGreatDoorVbg
import Derived.Test.YthokjbikomjhgaaGreatDoorQaa
set_option linter.unusedVariables false
set_option linter.unusedSimpArgs false
set_option maxRecDepth 100000
namespace Go.Proofs.YthokjbikomjhgaaGreatDoor.Lf_u
open Go.RowKit Go.Maps Go.Proofs.YthokjbikomjhgaaGreatDoor.Ar Go.Proofs.YthokjbikomjhgaaGreatDoor.Og Go.Proofs.YthokjbikomjhgaaGreatDoor.Ref Go.Proofs.YthokjbikomjhgaaGreatDoor.Mx Go.Proofs.YthokjbikomjhgaaGreatDoor.Wd Go.Proofs.YthokjbikomjhgaaGreatDoor.Dk_u Go.Proofs.YthokjbikomjhgaaGreatDoor.Mp Go.Proofs.YthokjbikomjhgaaGreatDoor.Kp
set_option linter.unusedVariables false
set_option linter.unusedSimpArgs false
theorem lok_line {x : Lok} (s : St) (h : 0 ≤ x.line ∧ x.line ≤ 7) : 0 ≤ (x.step s).1.line ∧ (x.step s).1.line ≤ 7 := by
  unfold Lok.step;split
  · exact next_line _ _
  · exact h
theorem lok_still {x : Lok} (s : St) (h : x.line = 0) : x.step s = (x, s) := by
  unfold Lok.step Lok.live; rw [h]; rfl
/-- The words that a look goes over. -/
structure LoW (c : Cf) (L : List Int) (a n ck : Int) : Prop where
  h0 : 0 ≤ a
  h1 : a + 7 + 3 * c.c ≤ (L.length : Int)
  h2 : (L.length : Int) ≤ 20000
  cap : 0 ≤ c.c ∧ c.c ≤ 16
  hn : n = max 0 (min (qw L (a + 1)) c.c)
  hk : qw L 1 = ck
theorem LoW.n0 {c : Cf} {L : List Int} {a n ck : Int} (h : LoW c L a n ck) : 0 ≤ n ∧ n ≤ 16 := by have := h.hn; have := h.cap; omega
/-- Where a look stands behind so many steps. -/
structure LoK (c : Cf) (L : List Int) (a n ck lo hi most : Int) (i nn : Nat) (x : Lok) (s : St) : Prop where
  ok : Xr x
  ks : LkS x
  ln : 0 ≤ x.line ∧ x.line ≤ 7
  r : Lp_u.rise x.l
  I : Zq s.l
  J : Lp_u.Jc_u L a c.c n ck lo hi most x s
  rem : (i : Int) + Lp_u.remC n x ≤ 6 * n + 1
  nn : nn ≤ i
theorem LoK.new {c : Cf} (hc : c.Ok) {s : St} {a n ck lo hi most : Int} (hlh : -9223372036854775808 ≤ lo ∧ hi ≤ 9223372036854775807) (hI : Zq s.l) : LoK c s.l a n ck lo hi most 0 0 (Lok.new c a lo hi most) s :=
  ⟨Xr.new hc _ _ _ _, LkS.new c _ _ _ _ hlh, by show (0 : Int) ≤ 1 ∧ (1 : Int) ≤ 7; decide, List.Pairwise.nil, hI, Lp_u.Jc_u.new c, by unfold Lp_u.remC Lok.new; simp, Nat.le_refl _⟩
theorem LoK.lt {c : Cf} {L : List Int} {a n ck lo hi most : Int} (w : LoW c L a n ck) {i nn : Nat} {x : Lok} {s : St} (h : LoK c L a n ck lo hi most i nn x s) (hl : x.line ≠ 0) : i < 150 := by
  have h1 := h.J.rem w.n0.1 hl; have h2 := h.rem; have h3 := w.n0; omega
theorem LoK.step {c : Cf} {L : List Int} {a n ck lo hi most : Int} (w : LoW c L a n ck) {i nn n2 : Nat} {x : Lok} {s : St} (h : LoK c L a n ck lo hi most i nn x s) (hl : x.line ≠ 0) (hn : n2 ≤ nn + 1) : LoK c L a n ck lo hi most (i + 1) n2 (x.step s).1 (x.step s).2 := by
  obtain ⟨j1, j2⟩ := Lp_u.Jc_u.step w.h0 w.h1 w.h2 w.cap w.hn w.hk h.J hl;exact ⟨h.ok.step s, h.ks.step s (fun p => (h.I p).2), lok_line s h.ln, Lp_u.rise_step h.r s, qe3 h.I x, j1, by have := h.rem; omega, by have := h.nn; omega⟩
theorem LoK.done {c : Cf} {L : List Int} {a n ck lo hi most : Int} {i nn : Nat} {x : Lok} {s : St} (h : LoK c L a n ck lo hi most i nn x s) (hl : x.line = 0) : (∀ j, qw s.l j = Lp_u.want L a ck lo hi n.toNat j) ∧ x.l = Lp_u.its L a ck lo hi most n.toNat ∧ s.l.length = L.length :=
  ⟨(h.J.done hl).1, (h.J.done hl).2, h.J.len⟩
def LoAt (W : World) (b m pa qa : Nat) (c : Cf) (L : List Int) (a n ck lo hi most : Int) (iv : Value) (wr : World) : Prop := ∃ (i nn : Nat) (x : Lok) (s : St), iv = .int .i64 ((i + 1 : Nat) : Int) ∧ LoK c L a n ck lo hi most i nn x s ∧ x.line ≠ 0 ∧ DkIs wr b m nn x ∧ Ar wr pa qa s ∧ Fr [b, m, pa, qa] W wr
def LpAt (W : World) (n : Nat) (iv : Value) (wr : World) : Prop := ∃ i : Nat, iv = .int .i64 i ∧ i ≤ n ∧ Fr [] W wr
/-- Where the loop over the cells stands. -/
def FcAt (W : World) (B : Nat) (L : List Int) (a ck lo hi : Int) (N : Nat) (u iv : Value) (wr : World) : Prop := ∃ i : Nat, i ≤ N ∧ iv = .int .i64 i ∧ wr.ownsRow B 74 3 u (Lp_u.allI L a ck lo hi i).length ((Lp_u.allI L a ck lo hi i).flatMap fT) ∧ Fr [] W wr
def bestK (l : List It) (mo : Int) (ks : List Int) : List It := ks.filterMap fun k => latT l k mo
theorem bestK_succ {l : List It} {mo : Int} {ks : List Int} {i : Nat} {k : Int} (h : ks[i]? = some k) : bestK l mo (ks.take (i + 1)) = bestK l mo (ks.take i) ++ (latT l k mo).toList := by
  unfold bestK;rw [List.take_add_one, h, List.filterMap_append];cases e : latT l k mo <;> simp [e]
theorem key1_len9 (out : List Int) (x : It) : (key1 out x).length ≤ out.length + 1 := by unfold key1; split <;> simp
theorem keysS_len9 : ∀ (r : List It) (out : List Int), (r.foldl key1 out).length ≤ out.length + r.length
  | [], out => by simp
  | x :: r, out => by
    have h1 := keysS_len9 r (key1 out x);have h2 := key1_len9 out x;simp only [List.foldl_cons, List.length_cons];omega
theorem keysT_len {l : List It} {n : Nat} (h : l.length ≤ n) : (keysT l).length ≤ n := by
  unfold keysT keysS;have := keysS_len9 (Zh l) [];rw [Xh] at this;simp at this;omega
/-- Where the loop over the keys stands. -/
def FkAt (W : World) (B : Nat) (l : List It) (mo : Int) (u iv : Value) (wr : World) : Prop := ∃ i : Nat, i ≤ (keysT l).length ∧ iv = .int .i64 i ∧ wr.ownsRow B 74 3 u (bestK l mo ((keysT l).take i)).length ((bestK l mo ((keysT l).take i)).flatMap fT) ∧ Fr [] W wr
theorem allI_len (L : List Int) (a ck lo hi : Int) : ∀ i, (Lp_u.allI L a ck lo hi i).length ≤ i
  | 0 => Nat.le_refl _
  | i + 1 => by
    have := allI_len L a ck lo hi i;unfold Lp_u.allI;rw [List.length_append];split <;> simp <;> omega
theorem bestK_len (l : List It) (mo : Int) (ks : List Int) : (bestK l mo ks).length ≤ ks.length := List.length_filterMap_le _ _
set_option maxRecDepth 100000 in
set_option maxHeartbeats 6400000 in
theorem finds_any (c : Cf) (rs : List (List O)) (ps ds : List Int) (ov pv dv : Value) (ss : List Sv) (R : List Nat) (k lo hi mo : Int) (hk : 0 ≤ k ∧ k ≤ 255) (hlo : 0 ≤ lo ∧ lo ≤ 255) (hhi : 0 ≤ hi ∧ hi ≤ 255) (hmo : 0 ≤ mo ∧ mo ≤ 255) (w : World) (t : Word.Tab w)
    (hS : q4k w (.agg #[.int .i64 c.t, .int .i64 c.c, .int .i64 c.wd, .int .i64 c.v, ov, pv, dv]) c rs ps ds ov pv dv ss R) :
    Calls Tryz.prog 5 #[.agg #[.int .i64 c.t, .int .i64 c.c, .int .i64 c.wd, .int .i64 c.v, ov, pv, dv], .int .u8 k, .int .u8 lo, .int .u8 hi, .int .u8 mo] w fun e w' => e = .returned (.bool true) ∧ Fr [] w w' := by
  have HS := q9 hS;have F0 := (Fr.refl [] w).alloc (.cells #[.int .i64 c.t, .int .i64 c.c, .int .i64 c.wd, .int .i64 c.v, ov, pv, dv] 27);have o1 := Ob.new w 27 #[.int .i64 c.t, .int .i64 c.c, .int .i64 c.wd, .int .i64 c.v, ov, pv, dv];clear hS;go_enter Tryz.func5, Tryz.ntmps5;go_wp2_with fail;generalize World.alloc w _ = w0 at *;generalize hb1 : w.heap.size = b1 at *;refine (Dk_u.known_true w0 (Dk_u.tabK t F0 A0b)).mono ?_; rintro e w1 ⟨rfl, F1⟩;have G := F0.trans F1;replace o1 := o1.up F1;clear F0 F1;have HX := q9 (qc hb1 o1.lt);clear hb1;have d0 := Ob.cell (i := 0) o1 rfl;have d1 := Ob.cell (i := 1) o1 rfl;have d2 := Ob.cell (i := 2) o1 rfl;have d3 := Ob.cell (i := 3) o1 rfl;have d4 := Ob.cell (i := 4) o1 rfl;have d5 := Ob.cell (i := 5) o1 rfl;have d6 := Ob.cell (i := 6) o1 rfl;go_wp2_with fail;refine (wide_any c.t c.c c.wd c.v rs ps ds _ 400 _ (HS.out.scr.up G)).mono ?_; rintro e w2 ⟨rfl, F2⟩;replace G := G.trans F2;replace o1 := o1.up F2;clear d0 d1 d2 d3 d4 d5 d6 F2;have d0 := Ob.cell (i := 0) o1 rfl;have d1 := Ob.cell (i := 1) o1 rfl;have d2 := Ob.cell (i := 2) o1 rfl;have d3 := Ob.cell (i := 3) o1 rfl;have d4 := Ob.cell (i := 4) o1 rfl;have d5 := Ob.cell (i := 5) o1 rfl;have d6 := Ob.cell (i := 6) o1 rfl;cases hw : Uj c.t c.c c.wd c.v rs ps ds 400 with
  | true =>
   clear hw;go_wp2_with fail;go_ret;exact ⟨rfl, G⟩
  | false =>
   have HW := q9 (qbz hw);clear hw;have HT := q9 (qc t (qc hk (qc hlo (qc hhi hmo))));clear t hk hlo hhi hmo;have HC0 := q9 (qbs HW.out.2.2.2.2.2).1;go_wp2_with fail;refine qp A09 ?_;refine za [] w2 #[true, true, true, true, true, true, false, false] 6 2 rfl ?_;refine envT_pass [true, true, true, false, false, false, false, false] 3 (n := 177) (listed' := #[true, true, true, false, false, false, false, false]) rfl A09 A09 A09 A09 A09 rfl A09 (fun _ _ d _ _ h => by cases d <;> exact h) ((Fr.refl _ w2).drew) ?_;apply qg;refine ⟨fun wf Ff => ?_, ?_⟩
   · have i0 := qb (Ff.cell d0 A0b)
     have i1 := qb (Ff.cell d1 A0b)
     have i2 := qb (Ff.cell d2 A0b)
     have i3 := qb (Ff.cell d3 A0b)
     have i4 := qb (Ff.cell d4 A0b)
     have i5 := qb (Ff.cell d5 A0b)
     have i6 := qb (Ff.cell d6 A0b)
     simp only [sel]
     repeat (go_big_quiet_step (fail))
     exact wpQuiet_nil rfl
   have HG := q9 G;clear d0 d1 d2 d3 d4 d5 d6 o1 G;refine jv [3, 5] A09 A0b (fun w3 F3 i hi9 o ho => ?_);have D3 := (Fr.refl [] w2).drew.trans F3;rcases (by simpa using hi9 : i = 3 ∨ i = 5) with rfl | rfl
   case' inr =>
    obtain rfl := qi ho;clear ho hi9;have oz := Ob.new w3 23 #[.int .i64 0, .int .i64 0, .int .i64 0, .int .i64 0];have FA := (Fr.refl [] w3).alloc (.cells #[.int .i64 0, .int .i64 0, .int .i64 0, .int .i64 0] 23);have hbc := (HG.out.trans D3).size;go_wp2_with fail;generalize World.alloc w3 _ = w4 at *;generalize w3.heap.size = bc at *;refine ql ⟨D3.trans FA, ?_⟩;refine q9j 3 A09 rfl rfl (fun w5 F5 => ?_);have D5 := (D3.trans FA).trans F5;replace oz := oz.up F5;go_wp2_with fail;refine (left_any c rs ps ds ov pv dv ss R _ _ (HS.out.up (HG.out.trans D5)) HW.out.2.2.2.2.2 (by have := HW.out.1; omega)).mono ?_; rintro e w6 ⟨pr, qr, rfl, hpr, hqr, Hr, F6⟩;have D6 := D5.trans F6;replace oz := oz.up F6;go_wp2_with fail;refine ql ⟨D6, ?_⟩;refine q9j 4 A09 rfl rfl (fun w7 F7 => ?_);have D7 := D6.trans F7;replace Hr := Hr.kept F7 A0b A0b;replace oz := oz.up F7;go_wp2_with fail;refine (fresh_any pr qr (q7x c rs ds ps).a _ Hr).mono ?_; rintro e w8 ⟨pf, qf_u, rfl, hpf, hqf, Hf_u, F8⟩;have hne0 : pf ≠ bc ∧ qf_u ≠ bc := by have := oz.lt; omega
    go_wp2_with fail;refine ql ⟨D7.trans F8, ?_⟩;refine qy (k := 6) rfl A09 (fun w9 F9 => ?_);have o7 := (oz.up F8).up F9;replace Hf_u := Hf_u.kept F9 A0b A0b;have G := HG.out.trans ((D7.trans F8).trans F9)
   case' inl =>
    obtain rfl := qi ho;clear ho hi9;go_wp2_with fail;refine (left_any c rs ps ds ov pv dv ss R _ _ (HS.out.up (HG.out.trans D3)) HW.out.2.2.2.2.2 (by have := HW.out.1; omega)).mono ?_; rintro e w4 ⟨pr, qr, rfl, hpr, hqr, Hr, F4⟩;have D4 := D3.trans F4;go_wp2_with fail;refine ql ⟨D4, ?_⟩;refine jv [4, 5] A09 A0b (fun w5 F5 i hi9 o ho => ?_);have D5 := D4.trans F5;replace Hr := Hr.kept F5 A0b A0b;rcases (by simpa using hi9 : i = 4 ∨ i = 5) with rfl | rfl
    case' inl =>
     obtain rfl := qi ho;clear ho hi9;go_wp2_with fail;refine (fresh_any pr qr (q7x c rs ds ps).a _ Hr).mono ?_; rintro e w6 ⟨pf, qf_u, rfl, hpf, hqf, Hf_u, F6⟩;have D6 := D5.trans F6;go_wp2_with fail;refine ql ⟨D6, ?_⟩;refine q9j 5 A09 rfl rfl (fun w7 F7 => ?_);have D7 := D6.trans F7;have oz := Ob.new w7 23 #[.int .i64 0, .int .i64 0, .int .i64 0, .int .i64 0];have FA := (Fr.refl [] w7).alloc (.cells #[.int .i64 0, .int .i64 0, .int .i64 0, .int .i64 0] 23);have hbc := (HG.out.trans D7).size;have hne0 : pf ≠ w7.heap.size ∧ qf_u ≠ w7.heap.size := by have := Hf_u.lt; have := F7.size; omega
     go_wp2_with fail;generalize World.alloc w7 _ = w8 at *;generalize w7.heap.size = bc at *;refine ql ⟨D7.trans FA, ?_⟩;refine qy (k := 6) rfl A09 (fun w9 F9 => ?_);have o7 := oz.up F9;replace Hf_u := Hf_u.kept (F7.trans (FA.trans F9)) A0b A0b;have G := HG.out.trans (D7.trans (FA.trans F9))
    case' inr =>
     obtain rfl := qi ho;clear ho hi9;have oz := Ob.new w5 23 #[.int .i64 0, .int .i64 0, .int .i64 0, .int .i64 0];have FA := (Fr.refl [] w5).alloc (.cells #[.int .i64 0, .int .i64 0, .int .i64 0, .int .i64 0] 23);have hbc := (HG.out.trans D5).size;have hr5 := Hr.lt;go_wp2_with fail;generalize World.alloc w5 _ = w6 at *;generalize w5.heap.size = bc at *;refine ql ⟨D5.trans FA, ?_⟩;refine q9j 4 A09 rfl rfl (fun w7 F7 => ?_);have D7 := (D5.trans FA).trans F7;replace Hr := Hr.kept (FA.trans F7) A0b A0b;replace oz := oz.up F7;go_wp2_with fail;refine (fresh_any pr qr (q7x c rs ds ps).a _ Hr).mono ?_; rintro e w8 ⟨pf, qf_u, rfl, hpf, hqf, Hf_u, F8⟩;have hne0 : pf ≠ bc ∧ qf_u ≠ bc := by have := oz.lt; omega
     go_wp2_with fail;refine ql ⟨D7.trans F8, ?_⟩;refine qy (k := 6) rfl A09 (fun w9 F9 => ?_);have o7 := (oz.up F8).up F9;replace Hf_u := Hf_u.kept F9 A0b A0b;have G := HG.out.trans ((D7.trans F8).trans F9)
   all_goals
     have hbw : w.heap.size ≤ bc := hbc
     have hbl := o7.lt
     have hrl := Hf_u.lt
     clear hpr hqr Hr
     obtain ⟨z0, z1, z2, z3⟩ := Pl.yp o7
     have zf := o7.frozen
     have F8 : Fr [bc] w9 ((((w9.setCell ⟨bc, 0, none⟩ (.int .i64 c.t)).setCell ⟨bc, 1, none⟩ (.int .i64 c.c)).setCell ⟨bc, 2, none⟩ (.int .i64 c.wd)).setCell ⟨bc, 3, none⟩ (.int .i64 c.v)) := (((Fr.setCell (S := [bc]) (b := bc) _ A0b).setCell' (b := bc) _ A0b).setCell' (b := bc) _ A0b).setCell' (b := bc) _ A0b
     have o8 : Ob ((((w9.setCell ⟨bc, 0, none⟩ (.int .i64 c.t)).setCell ⟨bc, 1, none⟩ (.int .i64 c.c)).setCell ⟨bc, 2, none⟩ (.int .i64 c.wd)).setCell ⟨bc, 3, none⟩ (.int .i64 c.v)) bc 23 #[.int .i64 c.t, .int .i64 c.c, .int .i64 c.wd, .int .i64 c.v] := Ob.set (i := 3) (Ob.set (i := 2) (Ob.set (i := 1) (Ob.set (i := 0) o7 (.int .i64 c.t)) (.int .i64 c.c)) (.int .i64 c.wd)) (.int .i64 c.v)
     go_wp2_with fail
     clear z0 z1 z2 z3 zf o7
     generalize World.setCell (World.setCell (World.setCell (World.setCell w9 _ _) _ _) _ _) _ _ = x8_u at *
     replace Hf_u := Hf_u.kept F8 (by simpa using hne0.1) (by simpa using hne0.2)
     have G8 := G.own F8 (by simpa using hbw)
     have hbc8 := o8.lt
     have hr8 := Hf_u.lt
     clear F8 G hbl hrl
     have hAI := runP_W ds HC0.out (q8v ds HW.out.2.2.2.2.2) ps
     have hLN := runP_len HC0.out rs ds ps
     generalize (q7x c rs ds ps).a = s at *
     have HAI := q9 (qc hAI hLN)
     clear hAI hLN
     refine (arena_any pf qf_u (q2h s.l) _ Hf_u).mono ?_; rintro e x9 ⟨pa, qa, rfl, hpa, hqa, Ha_u, F9⟩
     rw [show q2h (q2h s.l).l = q2h s.l from rfl] at Ha_u
     have G9 := G8.trans F9
     have o9 := o8.up F9
     have Hf9 := Hf_u.kept F9 A0b A0b
     have hal := Ha_u.lt
     have hGs := G8.size
     clear G8 o8 F9 Hf_u
     obtain ⟨c0, c1, c2, c3⟩ := Pl.yp o9
     have hk := HT.out.2.1
     have hlo := HT.out.2.2.1
     have hhi := HT.out.2.2.2.1
     go_wp2_with fail
     refine (Pick.q98 c HC0.out k hk pf qf_u (q2h s.l) _ Hf9 (by show (s.l.length : Int) = c.wd; exact HAI.out.2)).mono ?_; rintro e w10 ⟨⟨kc, rfl, hkc⟩, F10⟩
     have G10 := G9.trans F10
     have o10 := o9.up F10
     have Ha10 := Ha_u.kept F10 A0b A0b
     have Hf10 := Hf9.kept F10 A0b A0b
     have hs10 := F10.size
     clear Ha_u F10 G9 o9 Hf9 c0 c1 c2 c3
     obtain ⟨c0, c1, c2, c3⟩ := Pl.yp o10
     have hk0 := hkc.1
     have hk1 : kc ≤ 20000 := by have h1 := hkc.2; have h2 : ((q2h s.l).l.length : Int) = c.wd := HAI.out.2; have h3 := HC0.out.w2; have h4 := HC0.out.c2; have h5 := HC0.out.t1; omega
     have hwk : wrap64 (kc + 1) = kc + 1 := w64 A0a A0a
     have HPK := q9 (fun wz (Fz : Fr [] w10 wz) => Ref.vk wz pf qf_u (q2h s.l) (kc + 1) (Hf10.kept Fz A0b A0b))
     have j1 := qb c1
     go_wp2_with fail
     refine R7 A09 A09 ?_
     repeat (go_big_quiet_step ((go_at_call 36; exact Calls.in_same (HPK.out _ (In.fr _)))))
     refine wpQuiet_nil ?_
     intro w11 F11
     have G11 := G10.trans F11
     have o11 := o10.up F11
     have A11 := Ha10.kept F11 A0b A0b
     have R11 := Hf10.kept F11 A0b A0b
     have hs11 := F11.size
     clear j1 c0 c1 c2 c3 HPK G10 o10 Ha10 Hf10 F11
     obtain ⟨c0, c1, c2, c3⟩ := Pl.yp o11
     have hmo := HT.out.2.2.2.2
     go_wp2_with fail
     refine (dnew_any c kc (lo % 64) (hi % 64) (mo % 40) _).mono ?_; rintro e u6 ⟨b, mm, rfl, hb, hm, hbm, D6, F6⟩
     have ht := Dk_u.tabLt HT.out.1
     have hcl := o11.lt
     have HN := q9 (show (b ≠ pa ∧ b ≠ qa ∧ b ≠ mm ∧ mm ≠ pa ∧ mm ≠ qa) ∧ (pa ≠ pf ∧ pa ≠ qf_u ∧ qa ≠ pf ∧ qa ≠ qf_u) ∧ (pf ≠ b ∧ pf ≠ mm ∧ qf_u ≠ b ∧ qf_u ≠ mm) ∧ (bc ≠ b ∧ bc ≠ mm ∧ bc ≠ pa ∧ bc ≠ qa) ∧ (2 ≠ b ∧ 2 ≠ mm ∧ 2 ≠ pa ∧ 2 ≠ qa) ∧ (w.heap.size ≤ b ∧ w.heap.size ≤ mm ∧ w.heap.size ≤ pa ∧ w.heap.size ≤ qa) by omega)
     have HG2 := q9 (G11.trans F6)
     have HO := q9 (o11.up F6)
     have A6 := A11.kept F6 A0b A0b
     have HR := q9 (R11.kept F6 A0b A0b)
     have HL := q9 (show LoW c (q2h s.l).l kc (max 0 (min (qw (q2h s.l).l (kc + 1)) c.c)) (qw (q2h s.l).l 1) from ⟨hkc.1, hkc.2, by show (s.l.length : Int) ≤ 20000; have := HAI.out.2; have := HC0.out.w2; omega, by have := HC0.out.c2; have := HC0.out.t1; have := HC0.out.c16; omega, rfl, rfl⟩)
     have hI6 : Zq (q2h s.l).l := HAI.out.1
     have HKC := q9 (qc hk0 hk1)
     clear G11 o11 A11 R11 hs10 hs11 hGs hal hpa hqa hbc8 hr8 hne0 hbw hkc hb hm hbm F6 ht hcl c0 c1 c2 c3 hk0 hk1 hwk hpf hqf hk hbc
     generalize max 0 (min (qw (q2h s.l).l (kc + 1)) c.c) = n at *
     generalize hck : qw (q2h s.l).l 1 = ck at *
     have HCK := q9 hck
     clear hck
     generalize hlo6 : lo % 64 = lq at *
     generalize hhi6 : hi % 64 = hq at *
     generalize hmo6 : mo % 40 = mq at *
     have HRG := q9 (show 0 ≤ lq ∧ lq ≤ 63 ∧ 0 ≤ hq ∧ hq ≤ 63 ∧ 0 ≤ mq ∧ mq ≤ 39 by omega)
     clear hlo6 hhi6 hlo hhi
     generalize q2h s.l = sa at *
     go_wp2_with fail
     go_loopw [19] (fun iv wr => LoAt u6 b mm pa qa c sa.l kc n ck lq hq mq iv wr) (fun iv _ => 250 - (intOf iv).toNat)
     case' atStart => exact ⟨0, 0, _, sa, rfl, LoK.new HC0.out (by have := HRG.out; omega) hI6, by show (1 : Int) ≠ 0; decide, D6, A6, Fr.refl _ _⟩
     obtain ⟨i, nn, x, s2, rfl, hK, hl, D7, A7, F7⟩ := hrel
     have hi200 := hK.lt HL.out hl
     have HS1 := q9 (dstep_any x hK.ok hK.ks hK.ln b mm nn pa qa s2 (fun p => (hK.I p).2) wr (Dk_u.tabK (Dk_u.tabK HT.out.1 HG2.out A0b) F7 (by simp; exact HN.out.2.2.2.2.1)) ⟨HN.out.2.2.2.2.1.2.2.1, HN.out.2.2.2.2.1.2.2.2⟩ (by have := hK.nn; omega) HN.out.1 D7 A7)
     have HK := q9 (qc hK (qc hl F7))
     clear hK hl D7 A7 F7 D6 A6 hI6
     go_wp2_with fail
     refine HS1.out.mono ?_; rintro e u7 ⟨rfl, ⟨n3, hn3, D8⟩, A8, F8⟩
     have HK2 := q9 (HK.out.1.step HL.out HK.out.2.1 hn3)
     have HF8 := q9 (HK.out.2.2.trans F8)
     clear HS1 HK F8 hn3
     generalize (x.step s2).1 = x3 at *
     generalize (x.step s2).2 = s3 at *
     by_cases hz : x3.line = 0
     case neg =>
       rw [decide_eq_false hz]
       have HZ := q9 hz
       have q1 : decide (((i + 1 : Nat) : Int) + 1 > 200) = false := by simp; omega
       have q2 : decide ((200 : Int) < ((i + 1 : Nat) : Int) + 1) = false := by simp; omega
       clear hz
       go_wp2_with fail
       go_roundw
       case rel => exact ⟨i + 1, n3, x3, s3, by simp, HK2.out, HZ.out, D8, A8, HF8.out⟩
       case measure => simp [intOf]; omega
     rw [decide_eq_true hz]
     have HZ := q9 hz
     have HA8 := q9 (qc D8 A8)
     clear hz D8 A8
     go_wp2_with fail
     have HDN := q9 (HK2.out.done HZ.out)
     obtain ⟨N, hN⟩ : ∃ N : Nat, n = N := ⟨n.toNat, by have := HL.out.n0; omega⟩
     have HNN := q9 (qc hN (qc HL.out.n0 (by rw [hN]; rfl : n.toNat = N)))
     clear hN
     generalize hB0 : u7.heap.size = B0_u
     have HB0 := q9 hB0.symm
     go_loopw [20, 21] (FcAt u7 B0_u sa.l kc ck lq hq N) (fun _ iv _ => 20 - (intOf iv).toNat)
     case' atStart => exact ⟨0, Nat.zero_le _, rfl, ⟨rfl, .inl ⟨rfl, rfl⟩⟩, Fr.refl _ _⟩
     obtain ⟨j, hj, rfl, hrow, FJ⟩ := hrel
     have HW := q9 (qc (HA8.out.2.kept FJ A0b A0b) ((HR.out.kept HF8.out (by simp; exact ⟨HN.out.2.2.1.1, HN.out.2.2.1.2.1, HN.out.2.1.1.symm, HN.out.2.1.2.2.1.symm⟩) (by simp; exact ⟨HN.out.2.2.1.2.2.1, HN.out.2.2.1.2.2.2, HN.out.2.1.2.1.symm, HN.out.2.1.2.2.2.symm⟩)).kept FJ A0b A0b))
     have HRW := q9 (qc hrow FJ)
     have HLN := q9 (qc (allI_len sa.l kc ck lq hq j) hj)
     have hN16 : N ≤ 16 := by have := HNN.out; omega
     clear hrow FJ hB0
     by_cases hjn : j < N
     case pos =>
       have g1 : decide ((j : Int) < n) = true := by have := HNN.out.1; simp; omega
       have HJ := q9 (show j + 1 ≤ N ∧ j < 16 by omega)
       have hj16 : j < 16 := HJ.out.2
       have hst : Qq kc j = Lp_u.stI kc j := Lp_u.stI_at HKC.out.1 HKC.out.2 A0a
       have hs0 : 0 ≤ Lp_u.stI kc j ∧ Lp_u.stI kc j ≤ 30000 := by unfold Lp_u.stI; have := HKC.out; omega
       have hav := HDN.out.1 (Lp_u.stI kc j)
       rw [HNN.out.2.2, Lp_u.want_at hjn] at hav
       have hk1 := HDN.out.1 (Lp_u.stI kc j + 1)
       rw [HNN.out.2.2, Lp_u.want_key] at hk1
       have hk2 := HDN.out.1 (Lp_u.stI kc j + 2)
       rw [HNN.out.2.2, Lp_u.want_dat] at hk2
       have HAF := q9 (show Lp_u.aft sa.l kc ck lq hq j = if qw sa.l (Lp_u.stI kc j) = 1 ∧ (lq ≤ qw sa.l (Lp_u.stI kc j + 1) ∧ qw sa.l (Lp_u.stI kc j + 1) ≤ hq) then vz ck else qw sa.l (Lp_u.stI kc j) from rfl)
       have HSU := q9 (show Lp_u.allI sa.l kc ck lq hq (j + 1) = Lp_u.allI sa.l kc ck lq hq j ++ if (lq ≤ qw sa.l (Lp_u.stI kc j + 1) ∧ qw sa.l (Lp_u.stI kc j + 1) ≤ hq) ∧ 3 ≤ Lp_u.aft sa.l kc ck lq hq j then [(⟨qw sa.l (Lp_u.stI kc j + 1), Vb (Lp_u.aft sa.l kc ck lq hq j), qw sa.l (Lp_u.stI kc j + 2)⟩ : It)] else [] from rfl)
       generalize Lp_u.aft sa.l kc ck lq hq j = av at *
       generalize hstg : Lp_u.stI kc j = st at *
       have HE := q9 (qc hav (qc hk1 hk2))
       have hw1 : wrap64 (st + 1) = st + 1 := w64 A0a A0a
       have hw2 : wrap64 (st + 2) = st + 2 := w64 A0a A0a
       generalize hp0 : qw sa.l st = p0 at *
       generalize hp1 : qw sa.l (st + 1) = p1 at *
       generalize hp2 : qw sa.l (st + 2) = p2 at *
       have HP := q9 (qc hp0 (qc hp1 hp2))
       have HSS := q9 hst
       clear hav hk1 hk2 hp0 hp1 hp2 hstg hst hj hjn
       go_wp2_with fail
       refine (vh kc j _).mono ?_; rintro e _ ⟨rfl, rfl⟩
       rw [HSS.out]
       go_wp2_with fail
       refine (Ref.vk _ pf qf_u sa _ HW.out.2).mono ?_; rintro e _ ⟨rfl, rfl⟩
       rw [HP.out.2.1]
       by_cases h1 : lq ≤ p1
       case neg =>
         have b1 : decide (p1 ≥ lq) = false := by simp; omega
         have b1' : decide (lq ≤ p1) = false := by simp; omega
         have HS := q9 (show Lp_u.allI sa.l kc ck lq hq (j + 1) = Lp_u.allI sa.l kc ck lq hq j by rw [HSU.out, qd A0a, List.append_nil])
         have hae : av = p0 := by rw [HAF.out, qd A0a]
         go_wp2_with fail
         refine (Ref.vk _ pf qf_u sa _ HW.out.2).mono ?_; rintro e _ ⟨rfl, rfl⟩
         rw [HP.out.1]
         subst hae
         have b4 : (av != av) = false := by simp
         by_cases h3 : av = 1
         case' pos => have b3 : (av == 1) = true := by simp [h3]
         case' neg => have b3 : (av == 1) = false := by simpa using h3
         all_goals
           clear h3
           go_wp2_with fail
           refine (Ar.vk _ pa qa s3 _ HW.out.1).mono ?_; rintro e _ ⟨rfl, rfl⟩
           rw [HE.out.1]
           go_wp2_with fail
           refine (Ref.vk _ pf qf_u sa _ HW.out.2).mono ?_; rintro e _ ⟨rfl, rfl⟩
           rw [HP.out.1]
           go_wp2_with fail
           go_roundw
           case rel => exact ⟨j + 1, HJ.out.1, by go_num, by rw [HS.out]; exact HRW.out.1, HRW.out.2⟩
           case measure => have := HJ.out; simp [intOf]; omega
       have b1 : decide (p1 ≥ lq) = true := by simp; omega
       have b1' : decide (lq ≤ p1) = true := by simp; omega
       go_wp2_with fail
       refine (Ref.vk _ pf qf_u sa _ HW.out.2).mono ?_; rintro e _ ⟨rfl, rfl⟩
       rw [HP.out.2.1]
       by_cases h2 : p1 ≤ hq
       case neg =>
         have b2 : decide (p1 ≤ hq) = false := by simp; omega
         have HS := q9 (show Lp_u.allI sa.l kc ck lq hq (j + 1) = Lp_u.allI sa.l kc ck lq hq j by rw [HSU.out, qd A0a, List.append_nil])
         have hae : av = p0 := by rw [HAF.out, qd A0a]
         go_wp2_with fail
         refine (Ref.vk _ pf qf_u sa _ HW.out.2).mono ?_; rintro e _ ⟨rfl, rfl⟩
         rw [HP.out.1]
         subst hae
         have b4 : (av != av) = false := by simp
         by_cases h3 : av = 1
         case' pos => have b3 : (av == 1) = true := by simp [h3]
         case' neg => have b3 : (av == 1) = false := by simpa using h3
         all_goals
           clear h3
           go_wp2_with fail
           refine (Ar.vk _ pa qa s3 _ HW.out.1).mono ?_; rintro e _ ⟨rfl, rfl⟩
           rw [HE.out.1]
           go_wp2_with fail
           refine (Ref.vk _ pf qf_u sa _ HW.out.2).mono ?_; rintro e _ ⟨rfl, rfl⟩
           rw [HP.out.1]
           go_wp2_with fail
           go_roundw
           case rel => exact ⟨j + 1, HJ.out.1, by go_num, by rw [HS.out]; exact HRW.out.1, HRW.out.2⟩
           case measure => have := HJ.out; simp [intOf]; omega
       have b2 : decide (p1 ≤ hq) = true := by simp; omega
       go_wp2_with fail
       refine (Ref.vk _ pf qf_u sa _ HW.out.2).mono ?_; rintro e _ ⟨rfl, rfl⟩
       rw [HP.out.1]
       by_cases h3 : p0 = 1
       case pos =>
         have hae : av = vz ck := by rw [HAF.out, qf ⟨h3, h1, h2⟩]
         have hs3 : 3 ≤ vz ck := by unfold vz hd; omega
         have b3 : (p0 == 1) = true := by simp [h3]
         subst hae
         have HS := q9 (show Lp_u.allI sa.l kc ck lq hq (j + 1) = Lp_u.allI sa.l kc ck lq hq j ++ [(⟨p1, Vb (vz ck), p2⟩ : It)] by rw [HSU.out, qf ⟨⟨h1, h2⟩, hs3⟩])
         have b4 : (vz ck != vz ck) = false := by simp
         have b5 : decide (vz ck ≥ 3) = true := by simp; omega
         have b5' : decide (3 ≤ vz ck) = true := by simp; omega
         clear h1 h2 h3
         go_wp2_with fail
         refine (Ar.vk _ pa qa s3 _ HW.out.1).mono ?_; rintro e _ ⟨rfl, rfl⟩
         rw [HE.out.1]
         go_wp2_with fail
         refine (Ref.vk _ pf qf_u sa _ HW.out.2).mono ?_; rintro e _ ⟨rfl, rfl⟩
         rw [HCK.out]
         go_wp2_with fail
         refine (Mx.Qu ck _).mono ?_; rintro e _ ⟨rfl, rfl⟩
         generalize vz ck = av at *
         go_wp2_with fail
         refine (Ar.vk _ pa qa s3 _ HW.out.1).mono ?_; rintro e _ ⟨rfl, rfl⟩
         rw [HE.out.1]
         go_wp2_with fail
         refine (Ar.vk _ pa qa s3 _ HW.out.1).mono ?_; rintro e _ ⟨rfl, rfl⟩
         rw [HE.out.2.1]
         go_wp2_with fail
         refine (Ar.vk _ pa qa s3 _ HW.out.1).mono ?_; rintro e _ ⟨rfl, rfl⟩
         rw [HE.out.1]
         go_wp2_with fail
         refine (Vd _ _).mono ?_; rintro e _ ⟨rfl, rfl⟩
         go_wp2_with fail
         refine (Ar.vk _ pa qa s3 _ HW.out.1).mono ?_; rintro e _ ⟨rfl, rfl⟩
         rw [HE.out.2.2]
         have F4 := (Fr.refl [] wr).alloc (.cells #[.int .i64 p1, .int .i64 (Vb av), .int .i64 p2] 74)
         have o4 := Ob.new wr 74 #[.int .i64 p1, .int .i64 (Vb av), .int .i64 p2]
         have r4 := qo HRW.out.1 F4
         have GB := q9 (HRW.out.2.trans F4)
         go_wp2_with (at_builtin; refine qq zh rfl _ _ 65 rfl Tryz.underlying65 itI rfl (B := B0_u) _ _ rfl r4 _ [⟨p1, Vb av, p2⟩] rfl (Sq.block o4 rfl rfl (Nat.le_refl _) A0i) (by have := HLN.out.1; simp <;> omega) A0c (by rw [HB0.out]; exact GB.out.size) ?_; intro a7 c7 w7' r7 F7; generalize hT : Lp_u.allI sa.l kc ck lq hq j ++ [(⟨p1, Vb av, p2⟩ : It)] = T at *)
         have hn : Lp_u.allI sa.l kc ck lq hq (j + 1) = T := HS.out
         have GW := GB.out.own F7 (fun q hq9 => by rw [← HB0.out]; exact z8 r4 q hq9)
         have HNT := q9 hn
         have HR7 := q9 (qc r7 GW)
         clear r7 r4 o4 F4 F7 hn hT GW GB
         go_wp2_with fail
         go_roundw
         case rel => exact ⟨j + 1, HJ.out.1, by go_num, by rw [HNT.out]; exact HR7.out.1, HR7.out.2⟩
         case measure => have := HJ.out; simp [intOf]; omega
       have b3 : (p0 == 1) = false := by simpa using h3
       have hae : av = p0 := by rw [HAF.out, qd A0a]
       subst hae
       have b4 : (av != av) = false := by simp
       go_wp2_with fail
       refine (Ar.vk _ pa qa s3 _ HW.out.1).mono ?_; rintro e _ ⟨rfl, rfl⟩
       rw [HE.out.1]
       go_wp2_with fail
       refine (Ref.vk _ pf qf_u sa _ HW.out.2).mono ?_; rintro e _ ⟨rfl, rfl⟩
       rw [HP.out.1]
       go_wp2_with fail
       refine (Ar.vk _ pa qa s3 _ HW.out.1).mono ?_; rintro e _ ⟨rfl, rfl⟩
       rw [HE.out.1]
       by_cases h4 : 3 ≤ av
       case pos =>
         have HS := q9 (show Lp_u.allI sa.l kc ck lq hq (j + 1) = Lp_u.allI sa.l kc ck lq hq j ++ [(⟨p1, Vb av, p2⟩ : It)] by rw [HSU.out, qf ⟨⟨h1, h2⟩, h4⟩])
         have b5 : decide (av ≥ 3) = true := by simp; omega
         have b5' : decide (3 ≤ av) = true := by simp; omega
         clear h1 h2 h3 h4
         go_wp2_with fail
         refine (Ar.vk _ pa qa s3 _ HW.out.1).mono ?_; rintro e _ ⟨rfl, rfl⟩
         rw [HE.out.2.1]
         go_wp2_with fail
         refine (Ar.vk _ pa qa s3 _ HW.out.1).mono ?_; rintro e _ ⟨rfl, rfl⟩
         rw [HE.out.1]
         go_wp2_with fail
         refine (Vd _ _).mono ?_; rintro e _ ⟨rfl, rfl⟩
         go_wp2_with fail
         refine (Ar.vk _ pa qa s3 _ HW.out.1).mono ?_; rintro e _ ⟨rfl, rfl⟩
         rw [HE.out.2.2]
         have F4 := (Fr.refl [] wr).alloc (.cells #[.int .i64 p1, .int .i64 (Vb av), .int .i64 p2] 74)
         have o4 := Ob.new wr 74 #[.int .i64 p1, .int .i64 (Vb av), .int .i64 p2]
         have r4 := qo HRW.out.1 F4
         have GB := q9 (HRW.out.2.trans F4)
         go_wp2_with (at_builtin; refine qq zh rfl _ _ 65 rfl Tryz.underlying65 itI rfl (B := B0_u) _ _ rfl r4 _ [⟨p1, Vb av, p2⟩] rfl (Sq.block o4 rfl rfl (Nat.le_refl _) A0i) (by have := HLN.out.1; simp <;> omega) A0c (by rw [HB0.out]; exact GB.out.size) ?_; intro a7 c7 w7' r7 F7; generalize hT : Lp_u.allI sa.l kc ck lq hq j ++ [(⟨p1, Vb av, p2⟩ : It)] = T at *)
         have hn : Lp_u.allI sa.l kc ck lq hq (j + 1) = T := HS.out
         have GW := GB.out.own F7 (fun q hq9 => by rw [← HB0.out]; exact z8 r4 q hq9)
         have HNT := q9 hn
         have HR7 := q9 (qc r7 GW)
         clear r7 r4 o4 F4 F7 hn hT GW GB
         go_wp2_with fail
         go_roundw
         case rel => exact ⟨j + 1, HJ.out.1, by go_num, by rw [HNT.out]; exact HR7.out.1, HR7.out.2⟩
         case measure => have := HJ.out; simp [intOf]; omega
       have HS := q9 (show Lp_u.allI sa.l kc ck lq hq (j + 1) = Lp_u.allI sa.l kc ck lq hq j by rw [HSU.out, qd A0a, List.append_nil])
       have b5 : decide (av ≥ 3) = false := by simp; omega
       have b5' : decide (3 ≤ av) = false := by simp; omega
       clear h1 h2 h3 h4
       go_wp2_with fail
       go_roundw
       case rel => exact ⟨j + 1, HJ.out.1, by go_num, by rw [HS.out]; exact HRW.out.1, HRW.out.2⟩
       case measure => have := HJ.out; simp [intOf]; omega
     obtain rfl : j = N := by omega
     have g1 : decide ((j : Int) < n) = false := by have := HNN.out.1; simp; omega
     clear hjn
     go_wp2_with fail
     have hlj : (Lp_u.allI sa.l kc ck lq hq j).length ≤ 1000 := by have := HLN.out.1; omega
     obtain ⟨aq, cq, rfl, hcq, hmq, -⟩ := id (Sq.own (f := fT) HRW.out.1)
     have SA := Sq.own (f := fT) HRW.out.1
     refine (Kp.rkeys_any (Lp_u.allI sa.l kc ck lq hq j) _ wr hlj SA).mono ?_; rintro e v1 ⟨⟨uk, rfl, hkr⟩, FK⟩
     have SK := Sq.own (f := fI) hkr
     have SA1 := SA.up FK
     obtain ⟨ak, ckk, rfl, hck9, hmk9, hkk⟩ := id SK
     have HKL := q9 (show (keysT (Lp_u.allI sa.l kc ck lq hq j)).length ≤ 1000 from keysT_len hlj)
     have HSK := q9 (qc SA1 (qc hlj SK))
     have HF1 := q9 (qc HW.out.1 (qc HRW.out.2 FK))
     have hbest : Lp_u.its sa.l kc ck lq hq mq n.toNat = bestK (Lp_u.allI sa.l kc ck lq hq j) mq (keysT (Lp_u.allI sa.l kc ck lq hq j)) := by
       rw [Lp_u.its_bests, HNN.out.2.2]; rfl
     have HBE := q9 (HDN.out.2.1.trans hbest)
     have HSR := q9 HK2.out.r
     clear SA SA1 hkr SK FK hlj HRW HLN HW hbest hcq hmq g1
     generalize Lp_u.allI sa.l kc ck lq hq j = AL at *
     generalize hKS : keysT AL = KS at *
     have hkl := HKL.out
     have hmo := HRG.out
     go_wp2_with fail
     go_loopw [24, 26] (FkAt v1 v1.heap.size AL mq) (fun _ iv _ => 2000 - (intOf iv).toNat)
     case' atStart => exact ⟨0, Nat.zero_le _, rfl, ⟨rfl, .inl ⟨rfl, rfl⟩⟩, Fr.refl _ _⟩
     obtain ⟨q, hq9, rfl, hrow, FQ⟩ := hrel
     rw [hKS] at hq9 hrow
     have HQW := q9 (qc hrow FQ)
     have SAq := HSK.out.1.up FQ
     have SKq := HSK.out.2.2.up FQ
     have hkb := bestK_len AL mq (KS.take q)
     have HLQ := q9 (qh hkb (by rw [List.length_take]; omega : (KS.take q).length ≤ 1000))
     clear hrow hkb
     by_cases hqk : q < KS.length
     case pos =>
       have HJ := q9 (show q + 1 ≤ KS.length ∧ q < 1000 by omega)
       have hj16 : q < 1000 := HJ.out.2
       have g1 : decide ((q : Int) < (KS.length : Int)) = true := by simp; omega
       have hqz : (q : Int) < (KS.length : Int) := by omega
       obtain ⟨kz, hkz⟩ : ∃ kz, KS[q]? = some kz := ⟨KS[q], List.getElem?_eq_getElem hqk⟩
       obtain ⟨gk, ok9, rfl, dk0⟩ := X0 SKq hkz
       have HSU := q9 (bestK_succ (l := AL) (mo := mq) hkz)
       have HLT := q9 (Kp.rlatest_any AL _ kz mq wr HSK.out.2.1 SAq)
       have HFQ := q9 FQ
       clear SKq hkz hq9 hqk FQ SAq
       go_wp2_with fail
       refine HLT.out.mono ?_; rintro e v2 ⟨rfl, F2⟩
       have r2 := qo HQW.out.1 F2
       have G2 := HQW.out.2.trans F2
       cases hlt : latT AL kz mq with
       | none =>
         have HS := q9 (show bestK AL mq (KS.take (q + 1)) = bestK AL mq (KS.take q) by rw [HSU.out, hlt]; simp)
         rw [show Kp.latV none = .tuple #[.agg #[.int .i64 0, .int .i64 0, .int .i64 0], .bool false] from rfl]
         have F4 := (Fr.refl [] v2).alloc (.cells #[.int .i64 0, .int .i64 0, .int .i64 0] 74)
         have HR9 := q9 (qc (qo r2 F4) (G2.trans F4))
         clear r2 G2 F2 F4 hlt
         go_wp2_with fail
         go_roundw
         case rel => exact ⟨q + 1, by rw [hKS]; exact HJ.out.1, by go_num, by rw [hKS, HS.out]; exact HR9.out.1, HR9.out.2⟩
         case measure => have := HJ.out; simp [intOf]; omega
       | some it =>
         have HS := q9 (show bestK AL mq (KS.take (q + 1)) = bestK AL mq (KS.take q) ++ [it] by rw [HSU.out, hlt]; rfl)
         rw [show Kp.latV (some it) = .tuple #[.agg #[.int .i64 it.k, .int .i64 it.v, .int .i64 it.d], .bool true] from rfl]
         have F4 := (Fr.refl [] v2).alloc (.cells #[.int .i64 it.k, .int .i64 it.v, .int .i64 it.d] 74)
         have F5 := F4.alloc (.cells #[.int .i64 it.k, .int .i64 it.v, .int .i64 it.d] 74)
         have o5 := Ob.newAt (Yg v2 (.cells #[.int .i64 it.k, .int .i64 it.v, .int .i64 it.d] 74)) 74 #[.int .i64 it.k, .int .i64 it.v, .int .i64 it.d]
         have r5 := qo r2 F5
         have GB := q9 (G2.trans F5)
         clear r2 G2 F2 F4 hlt
         go_wp2_with (at_builtin; refine qq zh rfl _ _ 65 rfl Tryz.underlying65 itI rfl (B := v1.heap.size) _ _ rfl r5 _ [it] rfl (Sq.block o5 rfl rfl (Nat.le_refl _) A0i) (by have := HLQ.out; simp <;> omega) A0c GB.out.size ?_; intro a7 c7 w7' r7 F7; generalize hT : bestK AL mq (KS.take q) ++ [it] = T at *)
         have hn : bestK AL mq (KS.take (q + 1)) = T := HS.out
         have GW := GB.out.own F7 (z8 r5)
         have HNT := q9 hn
         have HR7 := q9 (qc r7 GW)
         clear r7 r5 o5 F5 F7 hn hT GW GB
         go_wp2_with fail
         go_roundw
         case rel => exact ⟨q + 1, by rw [hKS]; exact HJ.out.1, by go_num, by rw [hKS, HNT.out]; exact HR7.out.1, HR7.out.2⟩
         case measure => have := HJ.out; simp [intOf]; omega
     obtain rfl : q = KS.length := by omega
     have g1 : decide ((KS.length : Int) < (KS.length : Int)) = false := by simp
     have HBS := q9 (show bestK AL mq (KS.take KS.length) = x3.l by rw [List.take_length]; exact HBE.out.symm)
     have D9 := ((HA8.out.1.kept HF1.out.2.1 A0b A0b).kept HF1.out.2.2 A0b A0b).kept FQ A0b A0b
     have hn3 : n3 ≤ 1000 := by have h1 := HK2.out.nn; have h2 := HK2.out.rem; have h3 := HL.out.n0; unfold Lp_u.remC at h2; rw [qf HZ.out] at h2; omega
     have HFF := q9 ((HF8.out.then HF1.out.2.1).then (HF1.out.2.2.trans FQ))
     have HST := q9 (show ((i + 1 : Nat) : Int) ≤ 1 + 6 * c.c by have h1 := HK2.out.rem; have h2 := HL.out.hn; have h3 := HL.out.cap; unfold Lp_u.remC at h1; rw [qf HZ.out] at h1; omega)
     have HDD := q9 (qc D9 hn3)
     have oC := HO.out.kept HFF.out (by simp; exact HN.out.2.2.2.1)
     have SW := Sq.own (f := fT) HQW.out.1
     rw [HBS.out] at SW
     have HSW := q9 (qc SW oC)
     have hx16 : x3.l.length ≤ 1000 := by have := HK2.out.ok.len; have := HK2.out.ok.i1; omega
     clear D9 hn3 oC SW FQ SAq SKq hqk hq9 hmo
     go_wp2_with fail
     refine (ditems_any x3 HSR.out b mm n3 HDD.out.2 _ HDD.out.1).mono ?_; rintro e y1 ⟨ux, rfl, hux, GY⟩
     have hx1 := Sq.own (f := fT) hux
     have HY1 := q9 (qc (HSW.out.1.up GY) (HSW.out.2.up GY))
     clear hux
     go_wp2_with fail
     refine (Kp.sameItems_any x3.l x3.l ux _ y1 A0a A0a hx1 HY1.out.1).mono ?_; rintro e y2 ⟨rfl, GZ⟩
     rw [decide_eq_true rfl]
     obtain ⟨c0, c1, c2, c3⟩ := Pl.yp (HY1.out.2.up GZ)
     have HF9 := q9 (HFF.out.then (GY.trans GZ))
     have hcc : 0 ≤ c.c ∧ c.c ≤ 1000 := by have := HC0.out.c2; have := HC0.out.c16; have := HC0.out.t1; omega
     have g6 : decide (((i + 1 : Nat) : Int) ≤ 1 + 6 * c.c) = true := by simp; have := HST.out; omega
     have g7 : decide ((i : Int) + 1 ≤ 1 + 6 * c.c) = true := by simp; have := HST.out; omega
     have g8 : decide ((i : Int) ≤ 6 * c.c) = true := by simp; have := HST.out; omega
     clear hx1 hx16 GY GZ
     go_wp2_with fail
     go_ret
     exact ⟨rfl, HG2.out.own HF9.out (by have := HN.out.2.2.2.2.2; simp; omega)⟩
end Go.Proofs.YthokjbikomjhgaaGreatDoor.Lf_u
