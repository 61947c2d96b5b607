/- The walk of ModelPlays, whatever the map is made of. -/
import Derived.Test.YtjhgjpkiinkaeaaCopies
namespace Go.Proofs.Ytjhgjpkiinkaeaa.Mp
open Go.RowKit Go.Proofs.Ytjhgjpkiinkaeaa.Ar Go.Proofs.Ytjhgjpkiinkaeaa.Og
set_option linter.unusedVariables false
set_option linter.unusedSimpArgs false
variable {Mo : World → Nat → List Nat → (Nat → Int) → (Nat → Int) → Prop}
/-- A map of ours and the reference's, that hold the same. -/
structure Both (Mo : World → Nat → List Nat → (Nat → Int) → (Nat → Int) → Prop) (w v : World) (q : Nat) (B : List Nat) (p : Nat) (V W : Nat → Int) : Prop where
  m : Mine Mo w v q B V W
  r : Rm v p V W
  off : p ∉ B
  new : w.heap.size ≤ p
theorem Both.up (C : MapC Mo) {w v v' : World} {q : Nat} {B : List Nat} {p : Nat} {V W : Nat → Int} (h : Both Mo w v q B p V W) (f : Fr [] v v') : Both Mo w v' q B p V W := ⟨h.m.up C f, h.r.kept f (by simp), h.off, h.new⟩
def Pl1 (Mo : World → Nat → List Nat → (Nat → Int) → (Nat → Int) → Prop) (w : World) (q p n : Nat) (x : Value) (wr : World) : Prop := ∃ (i : Nat) (B : List Nat) (V W : Nat → Int), i ≤ n ∧ x = .int .i64 i ∧ Both Mo w wr q B p V W
def Pl2 (Mo : World → Nat → List Nat → (Nat → Int) → (Nat → Int) → Prop) (w : World) (q : Nat) (B : List Nat) (p : Nat) (V W : Nat → Int) (x : Value) (wr : World) : Prop := ∃ (i : Nat), i ≤ 64 ∧ x = .int .i64 i ∧ Both Mo w wr q B p V W
theorem max_if (a : Int) : max 0 a = if 0 < a then a else 0 := by split <;> omega
set_option maxRecDepth 100000 in
set_option maxHeartbeats 16000000 in
theorem plays_true (C : MapC Mo) (os : List O) (v : Value) (w : World) (ho : OpRow w v os) :
    Calls Try.prog 3 #[v] w fun e w' => e = .returned (.bool true) ∧ Fr [] w w' := by
  obtain ⟨a, cap, rfl, hl, hw, hc⟩ := ho
  have HC := Lib.hid hc
  have HW := Lib.hid hw
  clear hc hw
  unfold maxLen at hl
  go_enter Try.func3, Try.ntmps3
  go_wp2_with fail
  refine (known_true C _).mono ?_; rintro e w1 ⟨rfl, F1⟩
  by_cases h60 : 60 < os.length
  · have g : decide ((os.length : Int) > 60) = true := by simp; omega
    go_wp2
    go_ret
    exact ⟨rfl, F1⟩
  have g60 : decide ((os.length : Int) > 60) = false := by simp; omega
  go_wp2_with fail
  refine (mine_new C w _ F1).mono ?_; rintro e w2 ⟨q, B2, rfl, M2, -, -⟩
  clear F1 g60
  go_wp2_with fail
  refine (newMap_any _).mono ?_; rintro e w3 ⟨p, rfl, hp, R3, F3⟩
  have T3 : Both Mo w w3 q B2 p none1 none1 := ⟨M2.up C F3, R3, fun h => by have := C.lt M2.mo p h; omega, Nat.le_trans M2.g.size hp⟩
  clear M2 hp R3 F3
  go_wp2_with fail
  go_loopw [5] (Pl1 Mo w q p os.length) (fun y _ => os.length - (intOf y).toNat)
  case atStart => exact ⟨0, B2, _, _, Nat.zero_le _, rfl, T3⟩
  case round =>
    obtain ⟨i, B, V, W, hi, rfl, T⟩ := hrel
    clear T3
    by_cases hlt : i < os.length
    case neg =>
      obtain rfl : i = os.length := by omega
      go_wp2
      go_ret
      exact ⟨rfl, T.m.g⟩
    rcases HC.out with hz | ⟨b, off, rfl, hbb, hcell⟩
    · omega
    obtain ⟨d0, d1, d2, d3⟩ := hcell i hlt
    have e0 := cellUp T.m.g d0
    have e1 := cellUp T.m.g d1
    have e2 := cellUp T.m.g d2
    have e3 := cellUp T.m.g d3
    have hwf : wfO (nthO os i) := HW.out _ (nthO_mem hlt)
    have hbS : b ∉ p :: B := by
      simp only [List.mem_cons, not_or]
      exact ⟨by have := T.new; omega, fun h => by have := T.m.own b h; omega⟩
    clear hcell d0 d1 d2 d3
    generalize nthO os i = o at *
    obtain ⟨o1, o2, o3, o4⟩ := o
    simp only at e0 e1 e2 e3
    have hwf' : (Lit.int .i64 o1).wf = true := hwf
    have HE := Lib.hid (And.intro e0 (And.intro e1 (And.intro e2 e3)))
    clear e0 e1 e2 e3 hwf
    go_wp2_with fail
    refine wp_region_env (by kernel_rfl) (p :: B) (fun wa Fa => ?_)
    refine env_pass [true, true, true, true, true, true, false, true, true, true, true, true, true, false, false, false] 4 (n := 90) (listed' := #[true, true, true, true, true, true, false, true, true, true, true, true, true, false, false, false]) rfl (by kernel_rfl) (by kernel_rfl) (by kernel_rfl) rfl (by kernel_rfl) (fun _ _ d _ _ h => by cases d <;> exact h) (Fa.mono (by simp)) ?_
    apply Exists.intro
    refine ⟨fun wf Ff => ?_, ?_⟩
    · obtain ⟨e0, e1, e2, e3⟩ := HE.out
      have k0 := In.cell (Ff.cell e0 hbS)
      have k1 := In.cell (Ff.cell e1 hbS)
      have k2 := In.cell (Ff.cell e2 hbS)
      have k3 := In.cell (Ff.cell e3 hbS)
      clear e0 e1 e2 e3
      simp only [sel]
      repeat (go_big_quiet_step (fail))
      exact wpQuiet_nil rfl
    clear HE hbS
    have Ta := T.up C Fa
    have Da : Fr (p :: B) _ wa := Fa.mono (by simp)
    refine env_one 6 (by kernel_rfl) rfl rfl (fun wb Fb => ?_)
    have Tb := Ta.up C Fb
    have Db := Da.then Fb
    clear Ta Da Fb T Fa
    have hBlt : ∀ g, g ∈ B → g < wb.heap.size := C.lt Tb.m.mo
    have hplt : p < wb.heap.size := Tb.r.lt
    · go_wp2_with fail
      refine (mine_do C o1 o2 o3 o4 (i : Int) hwf' (wf_i i (by omega)) Tb.m).mono ?_; rintro e wc ⟨pa, Bc, rfl, Pa, ga, Mc, grc, Fc⟩
      have Dc : Fr (p :: B) _ wc := Db.trans (Fc.mono (by intro z hz; simp [hz]))
      have Rc := Tb.r.kept Fc Tb.off
      have hpc : p ∉ Bc := grc.off Tb.off hplt
      have hBc : ∀ g, g ∈ Bc → g ∈ B ∨ wb.heap.size ≤ g := grc
      have hga : ∀ g, g ∈ pa.ownBlock.toList → g ≠ p := fun g hg e => by have := (ga g hg).1; omega
      have hnp := Tb.new
      clear Tb Db Fc grc ga
      generalize hA : ans V W o1 o2 o3 o4 = A at *
      go_wp2_with fail
      refine nx_normal ⟨Dc, ?_⟩
      refine env_one 13 (by kernel_rfl) rfl rfl (fun wd Fd => ?_)
      have Mc2 := Mc.up C Fd
      have Rd := Rc.kept Fd (by simp)
      have Dd := Dc.then Fd
      have Pd := Pa.up Fd
      clear Mc Rc Dc Fd Pa
      go_wp2_with fail
      refine (doR_any p V W o1 o2 o3 o4 (i : Int) _ Rd).mono ?_; rintro e we ⟨⟨pb, rfl, Pb, gb⟩, Re, Fe⟩
      rw [hA] at Pb ⊢
      have De : Fr (p :: B) _ we := Dd.trans (Fe.mono (by intro z hz; simp at hz; simp [hz]))
      have Me : Mine Mo w we q Bc (nxV V o1 o2 o3 o4) (nxW W o1 o2 o3 o4 (i : Int)) := ⟨C.kept Mc2.mo Fe (fun g hg => by simp; intro e; subst e; exact hpc hg), Mc2.own, Mc2.g.own Fe (fun g hg => by rw [List.mem_singleton.1 hg]; exact hnp)⟩
      have Pe := Pd.kept Fe (fun g hg => by simp; exact hga g hg)
      clear Mc2 Rd Dd Pd Fe gb hga hBc
      go_wp2_with fail
      refine nx_normal ⟨De, ?_⟩
      refine env_one 14 (by kernel_rfl) rfl rfl (fun wg Fg => ?_)
      have Pe2 := Pe.up Fg
      have Pb2 := Pb.up Fg
      have Dg := De.then Fg
      have Tg : Both Mo w wg q Bc p (nxV V o1 o2 o3 o4) (nxW W o1 o2 o3 o4 (i : Int)) := ⟨Me.up C Fg, Re.kept Fg (by simp), hpc, hnp⟩
      clear Pe Pb De Me Re Fg
      go_wp2_with fail
      refine (sameAnswer_true A pa pb _ Pe2 Pb2).mono ?_; rintro e wh ⟨rfl, Fh⟩
      have Th := Tg.up C Fh
      have Dh := Dg.then Fh
      clear Tg Dg Fh Pe2 Pb2
      go_wp2_with fail
      refine nx_normal ⟨Dh, ?_⟩
      refine env_one 15 (by kernel_rfl) rfl rfl (fun wi Fi => ?_)
      have Ti := Th.up C Fi
      have Di := Dh.then Fi
      clear Th Dh Fi
      go_wp2
      refine nx_normal ⟨Di, ?_⟩
      refine env_done (by kernel_rfl) (fun wj Fj => ?_)
      have Tj := Ti.up C Fj
      clear Ti Di Fj hA
      generalize nxV V o1 o2 o3 o4 = V1 at Tj
      generalize nxW W o1 o2 o3 o4 (i : Int) = W1 at Tj
      generalize ansv A pa = va at *
      generalize ansv A pb = vb at *
      go_wp2_with fail
      refine (doR_any p V1 W1 4 0 0 63 0 _ Tj.r).mono ?_; rintro e wk ⟨⟨ps, rfl, Ps, gs⟩, Rk, Fk⟩
      rw [show ans V1 W1 4 0 0 63 = ⟨0, false, 0, -1, 0, scan V1 0 63⟩ from ans_scan V1 W1 (n := 0) (m := 63) (by decide) (by decide)] at Ps ⊢
      rw [show nxV V1 4 0 0 63 = V1 from (nx_scan V1 W1 (n := 0) (m := 63) (wr := 0) (by decide) (by decide)).1, show nxW W1 4 0 0 63 0 = W1 from (nx_scan V1 W1 (n := 0) (m := 63) (by decide) (by decide)).2] at Rk
      have Tk : Both Mo w wk q Bc p V1 W1 := ⟨⟨C.kept Tj.m.mo Fk (fun g hg => by simp; intro e; subst e; exact Tj.off hg), Tj.m.own, Tj.m.g.own Fk (fun g hg => by rw [List.mem_singleton.1 hg]; exact Tj.new)⟩, Rk, Tj.off, Tj.new⟩
      clear Tj Rk Fk gs
      obtain ⟨xs, ys, hxs, -, -⟩ := id Ps
      subst hxs
      simp only [ansv]
      have fk := (Fr.refl [] wk).alloc (.cells #[.int .i64 0, .bool false, .int .i64 0, .int .i64 (-1), .int .i64 0, .slice xs (scan V1 0 63).length ys] 31)
      have hk := Go.heap_alloc_new wk (.cells #[.int .i64 0, .bool false, .int .i64 0, .int .i64 (-1), .int .i64 0, .slice xs (scan V1 0 63).length ys] 31)
      have Tl := Tk.up C fk
      have Pl := Ps.up fk
      clear Tk Ps fk
      go_wp2_with fail
      generalize (wk.alloc (.cells #[.int .i64 0, .bool false, .int .i64 0, .int .i64 (-1), .int .i64 0, .slice xs (scan V1 0 63).length ys] 31)) = wl at *
      generalize wk.heap.size = bk at *
      have HK := Lib.hid hk
      clear hk
      refine wp_region_env (by kernel_rfl) [] (fun wa Fa => ?_)
      refine env_pass [true, false, true, true, false, false] 3 (n := 90) (listed' := #[true, false, true, true, false, false]) rfl (by kernel_rfl) (by kernel_rfl) (by kernel_rfl) rfl (by kernel_rfl) (fun _ _ d _ _ h => by cases d <;> exact h) Fa ?_
      apply Exists.intro
      refine ⟨fun wf Ff => ?_, ?_⟩
      · obtain ⟨e0, e1, e2, e3, e4, e5⟩ := cells6 (heapUp Ff HK.out)
        have k5 := In.cell e5
        clear e0 e1 e2 e3 e4 e5
        simp only [sel]
        repeat (go_big_quiet_step (fail))
        exact wpQuiet_nil rfl
      refine env_one 1 (by kernel_rfl) rfl rfl (fun wb Fb => ?_)
      have Db := Fa.trans Fb
      have Tb := Tl.up C Db
      have Pb := Pl.up Db
      clear Fa Fb Tl Pl HK
      go_wp2_with fail
      refine (C.all q Bc V1 W1 _ Tb.m.mo).mono ?_; rintro e wc ⟨⟨pv, rfl, Pv, -⟩, Fc⟩
      have Tc := Tb.up C Fc
      have Pc := Pb.up Fc
      have Dc := Db.trans Fc
      clear Tb Pb Db Fc
      go_wp2_with fail
      refine nx_normal ⟨Dc, ?_⟩
      refine env_one 4 (by kernel_rfl) rfl rfl (fun wd Fd => ?_)
      have Td := Tc.up C Fd
      have Pd := Pc.up Fd
      have Pv2 := Pv.up Fd
      have Dd := Dc.trans Fd
      clear Tc Pc Dc Fd Pv
      go_wp2_with fail
      refine (samePairs_true _ _ _ _ Pv2 Pd).mono ?_; rintro e we ⟨rfl, Fe⟩
      have Te := Td.up C Fe
      have De := Dd.trans Fe
      clear Td Pd Pv2 Dd Fe
      go_wp2_with fail
      refine nx_normal ⟨De, ?_⟩
      refine env_one 5 (by kernel_rfl) rfl rfl (fun wg Fg => ?_)
      have Tg := Te.up C Fg
      have Dg := De.trans Fg
      clear Te De Fg
      go_wp2
      refine nx_normal ⟨Dg, ?_⟩
      refine env_done (by kernel_rfl) (fun wh Fh => ?_)
      have Th := Tg.up C Fh
      clear Tg Dg Fh
      go_wp2_with fail
      go_loopw [7] (Pl2 Mo w q Bc p V1 W1) (fun y _ => 64 - (intOf y).toNat)
      case atStart => exact ⟨0, by omega, rfl, Th⟩
      case round =>
        obtain ⟨n, hn, rfl, T⟩ := hrel
        clear Th
        by_cases hn64 : n < 64
        · have g : decide ((n : Int) ≤ 63) = true := by simp; omega
          go_wp2_with fail
          refine (C.get q Bc _ _ n _ hn64 T.m.mo).mono ?_; rintro e w8 ⟨rfl, F8⟩
          have T8 := T.up C F8
          clear T F8
          have k0 := In.cell (T8.r.cellV hn64)
          have k1 := In.cell (T8.r.cellW hn64)
          have HWr := fun y : In w8 => C.writer q Bc V1 W1 n y.at_ hn64 (C.kept T8.m.mo y.fr (by simp))
          generalize V1 n = vn at *
          generalize W1 n = wn at *
          by_cases hv0 : 0 < vn
          · rw [show max 0 vn = vn by omega]
            go_wp2_with fail
            refine wp_region_in (by kernel_rfl) (by kernel_rfl) ?_
            repeat (go_big_quiet_step ((go_at_call 17; exact Calls.in_ (HWr _))))
            refine wpQuiet_nil ?_
            intro w9 F9
            have T9 := T8.up C F9
            clear T8 F9 k0 k1 HWr
            go_wp2
            exact ⟨⟨n + 1, by omega, by go_num, T9⟩, by simp [intOf]; omega⟩
          · rw [show max 0 vn = 0 by omega]
            go_wp2_with fail
            refine wp_region_in (by kernel_rfl) (by kernel_rfl) ?_
            repeat (go_big_quiet_step ((go_at_call 17; exact Calls.in_ (HWr _))))
            refine wpQuiet_nil ?_
            intro w9 F9
            have T9 := T8.up C F9
            clear T8 F9 k0 k1 HWr
            go_wp2
            exact ⟨⟨n + 1, by omega, by go_num, T9⟩, by simp [intOf]; omega⟩
        · obtain rfl : n = 64 := by omega
          have g : decide (((64 : Nat) : Int) ≤ 63) = false := by decide
          go_wp2
          exact ⟨⟨i + 1, Bc, V1, W1, by omega, by go_num, T⟩, by simp [intOf]; omega⟩
end Go.Proofs.Ytjhgjpkiinkaeaa.Mp
