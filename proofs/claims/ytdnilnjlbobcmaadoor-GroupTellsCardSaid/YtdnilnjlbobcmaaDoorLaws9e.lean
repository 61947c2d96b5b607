/- Layer 9's laws: GroupTells. -/
import Derived.Test.YtdnilnjlbobcmaaDoorLaws9
import Derived.Test.YtdnilnjlbobcmaaDoorBd
namespace Go.Proofs.YtdnilnjlbobcmaaDoor.Gp
open Go.RowKit Go.Proofs.YtdnilnjlbobcmaaDoor.Ar Go.Proofs.YtdnilnjlbobcmaaDoor.Mx Go.Proofs.YtdnilnjlbobcmaaDoor.Kp Go.Proofs.YtdnilnjlbobcmaaDoor.Vw
set_option linter.unusedVariables false
set_option linter.unusedSimpArgs false
theorem sortI_any (w : World) (m : List Int) (u v : Value) (hl : m.length ≤ 1000000) (hu : Sq fI w u m) (hv : Sq fI w v m) : Calls Tryd.prog 13 #[u, v] w fun e w' => e = .returned (.bool true) ∧ Fr [] w w' := by
  have := sameI_any m m u v w hl hl hu hv
  rw [decide_eq_true rfl] at this; exact this
theorem sortT_any (w : World) (m : List It) (u v : Value) (hl : m.length ≤ 1000000) (hu : Sq fT w u m) (hv : Sq fT w v m) : Calls Tryd.prog 16 #[u, v] w fun e w' => e = .returned (.bool true) ∧ Fr [] w w' := by
  have := sameItems_any m m u v w hl hl hu hv
  rw [decide_eq_true rfl] at this; exact this
def TelAt (w : World) (n : Nat) (x : Value) (wr : World) : Prop := ∃ i : Nat, i ≤ n ∧ x = .int .i64 (i : Nat) ∧ Fr [] w wr
set_option maxRecDepth 100000 in
set_option maxHeartbeats 12800000 in
theorem gtells_true (l : List It) (cells ct cc cwd cvs at_ af lst : Int) (v : Value) (W : World) (t : Word.Tab W) (hwf : ∀ x, x ∈ l → Wf x.k x.v) (hat : 0 ≤ at_ ∧ at_ < 65536) (haf : 0 ≤ af ∧ af < 65536) (h : Sq fT W v l) :
    Calls Tryd.prog 3 #[v, .int .i64 cells, .agg #[.int .i64 ct, .int .i64 cc, .int .i64 cwd, .int .i64 cvs], .int .u16 at_, .int .u16 af, .int .i64 lst] W fun e w' => e = .returned (.bool true) ∧ Fr [] W w' := by
  obtain ⟨al, cl, rfl, hcl, hml, -⟩ := id h
  have HL := Lib.hid h
  have FB := (Fr.refl [] W).alloc (.cells #[.int .i64 ct, .int .i64 cc, .int .i64 cwd, .int .i64 cvs] 24)
  have ob := Ob.new W 24 #[.int .i64 ct, .int .i64 cc, .int .i64 cwd, .int .i64 cvs]
  have HOB := Lib.hid (And.intro FB ob)
  clear h FB ob
  go_enter Tryd.func3, Tryd.ntmps3
  go_wp2_with fail
  generalize (W.alloc (.cells #[.int .i64 ct, .int .i64 cc, .int .i64 cwd, .int .i64 cvs] 24)) = wb at *
  generalize hpb : W.heap.size = pb at *
  clear hpb
  refine (known9_any _ (tab_up t HOB.out.1)).mono ?_
  rintro e w0 ⟨rfl, F0⟩
  have o0 := HOB.out.2.up F0
  have FW0 := HOB.out.1.trans F0
  obtain ⟨d0, d1, d2, d3⟩ := Pl.cells4 o0
  by_cases h40 : 40 < l.length
  · have h40z : (40 : Int) < (l.length : Int) := by omega
    go_wp2_with fail
    go_ret
    exact ⟨rfl, FW0⟩
  have h40z : ¬ (40 : Int) < (l.length : Int) := by omega
  have HO0 := Lib.hid (And.intro o0 FW0)
  clear o0 FW0 F0
  go_wp2_with fail
  refine (Ref.isConf_any ct cc cwd cvs w0).mono ?_
  rintro e w1 ⟨rfl, F1⟩
  generalize hcd : Pl.code ct cc cwd cvs = cd at *
  by_cases hc0 : cd = 0
  rotate_left
  · have hcb : (cd != 0) = true := by simpa using hc0
    have HF := Lib.hid (HO0.out.2.trans F1)
    clear F1 hcd
    go_wp2_with fail
    go_ret
    exact ⟨rfl, HF.out⟩
  subst hc0
  have HCD := Lib.hid hcd
  have hll : l.length ≤ 1000 := by omega
  have HF1 := Lib.hid (And.intro (HO0.out.1.up F1) (HO0.out.2.trans F1))
  have HSO := Lib.hid (sort_any l _ w1 hll (HL.out.up HF1.out.2))
  have HW := Lib.hid (show ∀ y, y ∈ sortT l → (Lit.int .i64 y.k).wf = true from fun y hy => (hwf y (mem_sortT.1 hy)).1)
  have HSR := Lib.hid (sortT_srt l)
  have hsl := sortT_length l
  generalize sortT l = s at *
  have hs40 : s.length ≤ 40 := by omega
  clear hwf hsl hcd F1 d0 d1 d2 d3 HO0
  go_wp2_with fail
  refine HSO.out.mono ?_
  rintro e w2 ⟨⟨u2, rfl, r2⟩, F2⟩
  have S2 := Sq.own (f := fT) r2
  obtain ⟨a2, c2, rfl, hc2, hm2, -⟩ := id S2
  have HF2 := Lib.hid (And.intro (HF1.out.1.up F2) (HF1.out.2.trans F2))
  have HSP := Lib.hid (And.intro (split9_any s cells _ w2 hs40 HSR.out HW.out S2) (fun (w3 : World) (F : Fr [] w2 w3) => split_any s cells _ w3 (by omega) (S2.up F)))
  have HLE := Lib.hid (split_len cells HSR.out)
  have HPO := Lib.hid (split_pos cells HSR.out)
  have HFL := Lib.hid (split_flat cells HSR.out)
  generalize splitT s cells = G at *
  have hgl : G.length ≤ 100 := by have := HLE.out; omega
  clear r2 F2 HSO S2
  go_wp2_with fail
  refine HSP.out.1.mono ?_
  rintro e w3 ⟨⟨u3, ss, rfl, hsl, r3, G3⟩, F3⟩
  have S3 := Sq.own (f := fS) r3
  obtain ⟨a3, c3, rfl, hc3, hm3, -⟩ := id S3
  rw [hsl] at hc3 S3 ⊢
  have HF3 := Lib.hid (And.intro S3 (And.intro G3.gs F3))
  have HR := Lib.hid (HSP.out.2 w3 F3)
  clear r3 F3 S3 G3 HSP hsl
  go_wp2_with fail
  refine HR.out.mono ?_
  rintro e w4 ⟨⟨u4, st, rfl, hsl, r4, G4⟩, F4⟩
  have S4 := Sq.own (f := fS) r4
  obtain ⟨a4, c4, rfl, hc4, hm4, -⟩ := id S4
  rw [hsl] at hc4 S4 ⊢
  have HF4 := Lib.hid (And.intro S4 (And.intro G4.gs (And.intro (HF3.out.1.up F4) (And.intro (HF3.out.2.1.up F4) (And.intro (HF2.out.1.up (HF3.out.2.2.trans F4)) (HF2.out.2.trans (HF3.out.2.2.trans F4)))))))
  clear r4 F4 S4 G4 HR hsl
  have hml := minsT_length lst G
  have HM := Lib.hid (mins9_any lst G ss _ w4 (by omega) HF4.out.2.2.1 HF4.out.2.2.2.1)
  have HMR := Lib.hid (fun (w5 : World) (F : Fr [] w4 w5) => mins_any lst G st _ w5 (by omega) (HF4.out.1.up F) (HF4.out.2.1.up F))
  generalize minsT lst G = ms at *
  have hmk : ms.length ≤ 1000000 := by omega
  have HMH := Lib.hid hml
  clear hml
  go_wp2_with fail
  refine HM.out.mono ?_
  rintro e w5 ⟨⟨rfl, o5⟩, F5⟩
  have HMS := Lib.hid (HMR.out w5 F5)
  have HO5 := Lib.hid (And.intro o5 F5)
  generalize w4.heap.size = q4 at *
  clear o5 F5 HM HMR
  go_wp2_with fail
  refine HMS.out.mono ?_
  rintro e w6 ⟨⟨u6, rfl, r6⟩, F6⟩
  have S6 := Sq.own (f := fI) r6
  obtain ⟨a6, c6, rfl, hc6, hm6, -⟩ := id S6
  have S5 := (HO5.out.1.sq fI_lays hmk).up F6
  rw [HMH.out] at S5
  have HE := Lib.hid (sortI_any w6 ms _ _ hmk S5 S6)
  have HF6 := Lib.hid (HO5.out.2.trans F6)
  clear r6 F6 S6 S5 HMS
  go_wp2_with fail
  refine HE.out.mono ?_
  rintro e w7 ⟨rfl, F7⟩
  have HF7 := Lib.hid (HF6.out.trans F7)
  clear F7 HE
  go_wp2_with fail
  go_loopw [16] (TelAt w7 G.length) (fun x _ => G.length - (intOf x).toNat)
  case atStart => exact ⟨0, by omega, rfl, Fr.refl _ _⟩
  case round =>
    obtain ⟨i, hi, rfl, F⟩ := hrel
    by_cases hlt : i < G.length
    · have HI2 := Lib.hid (show i + 1 ≤ G.length ∧ G.length - (i + 1) < G.length - i by omega)
      have hltz : (i : Int) < (G.length : Int) := by omega
      have hi0 : (0 : Int) ≤ (i : Int) := by omega
      obtain ⟨g, hgi⟩ : ∃ g, G[i]? = some g := ⟨G[i], List.getElem?_eq_getElem _⟩
      have FW := HF7.out.trans F
      obtain ⟨gb, ob, s', rfl, -, -, x0, xsq⟩ := sg_at (HF4.out.2.2.1.up FW) (HF4.out.2.2.2.1.up FW) hgi
      obtain ⟨gc, oc, s2, rfl, -, -, y0, ysq⟩ := sg_at (HF4.out.1.up FW) (HF4.out.2.1.up FW) hgi
      have hgb : g.length ≤ 1000000 := by have := (List.sublist_flatten_of_mem (List.mem_of_getElem? hgi)).length_le; rw [HFL.out] at this; omega
      have HSI := Lib.hid (fun (W : World) (F : Fr [] wr W) => sortT_any W g _ _ hgb (xsq.up F) (ysq.up F))
      have HF := Lib.hid F
      have k0 := In.cell x0
      have k1 := In.cell y0
      clear F FW x0 y0 xsq ysq hgi
      go_wp2_with fail
      refine wp_region_in (by kernel_rfl) (by kernel_rfl) ?_
      repeat (go_big_quiet_step ((go_at_call 16; exact Calls.in_ (HSI.out _ (In.fr _)))))
      refine wpQuiet_nil ?_
      intro w8 F8
      clear k0 k1
      go_wp2_with fail
      go_roundw
      case rel => exact ⟨i + 1, HI2.out.1, by simp, HF.out.trans F8⟩
      case measure => exact meas rfl HI2.out.2
    · have hge : ¬ (i : Int) < (G.length : Int) := by omega
      have hfm : Pl.form ct cc cwd cvs = true := by
        have hok := HCD.out
        unfold Pl.code at hok
        by_cases hf : Pl.form ct cc cwd cvs = true
        · exact hf
        · rw [if_neg hf] at hok; omega
      rw [Pl.form_iff] at hfm
      obtain ⟨cap, hcap⟩ : ∃ cap : Nat, cc = (cap : Int) := ⟨cc.toNat, by omega⟩
      subst hcap
      have hcap1 : 1 ≤ cap := by omega
      have hcap16 : cap ≤ 16 := by omega
      have FW := HF7.out.trans F
      have hfl2 : G.flatten.length ≤ 1000 := by rw [HFL.out]; omega
      have HC1 := Lib.hid (fun (W : World) (F' : Fr [] wr W) => chunks9_any ⟨ct, (cap : Int), cwd, cvs⟩ cap at_ af lst G ss _ W (tab_up t (HF4.out.2.2.2.2.2.trans (FW.trans F'))) rfl HCD.out (by omega) (by omega) (by omega) hfl2 (HF4.out.2.2.1.up (FW.trans F')) (HF4.out.2.2.2.1.up (FW.trans F')))
      have HC2 := Lib.hid (fun (W : World) (F' : Fr [] wr W) => rchunks_any ⟨ct, (cap : Int), cwd, cvs⟩ cap at_ af lst G st _ W rfl hcap1 hcap16 (by omega) (by omega) (by omega) hfl2 (HF4.out.1.up (FW.trans F')) (HF4.out.2.1.up (FW.trans F')))
      have hCT : (chunksT ⟨ct, (cap : Int), cwd, cvs⟩ at_ af lst G).length ≤ G.length := by
        unfold chunksT
        split
        · rw [chunksF_length]; exact Nat.le_refl _
        · exact Nat.zero_le _
      have hCL : ∀ n, n ∈ chunksT ⟨ct, (cap : Int), cwd, cvs⟩ at_ af lst G → True := fun _ _ => trivial
      generalize chunksT ⟨ct, (cap : Int), cwd, cvs⟩ at_ af lst G = CT at *
      have HOC := Lib.hid (And.intro (HF4.out.2.2.2.2.1.up FW) (HF4.out.2.2.2.2.2.trans FW))
      clear hfm F FW
      go_wp2_with fail
      refine wp_region_env (by kernel_rfl) [] (fun w8 F8 => ?_)
      refine env_pass [true, true, true, true, true, true, true, false, true, true, true, true, true, true, true, false, false, false] 4 (n := 106) (listed' := #[true, true, true, true, true, true, true, false, true, true, true, true, true, true, true, false, false, false]) rfl (by kernel_rfl) (by kernel_rfl) (by kernel_rfl) rfl (by kernel_rfl) (fun _ _ d _ _ h => by cases d <;> exact h) F8 ?_
      apply Exists.intro
      refine ⟨fun wf Ff => ?_, ?_⟩
      · obtain ⟨d0, d1, d2, d3⟩ := Pl.cells4 (HOC.out.1.up Ff)
        have j0 := In.cell d0
        have j1 := In.cell d1
        have j2 := In.cell d2
        have j3 := In.cell d3
        clear d0 d1 d2 d3
        simp only [sel]
        repeat (go_big_quiet_step (fail))
        exact wpQuiet_nil rfl
      refine env_one 7 (by kernel_rfl) rfl rfl (fun w9 F9 => ?_)
      have E := F8.trans F9
      clear F8 F9
      go_wp2_with fail
      refine (HC1.out w9 E).mono ?_
      rintro e w10 ⟨⟨r1, xs, rfl, X1, Y1⟩, F10⟩
      replace E := E.trans F10
      clear F10
      go_wp2_with fail
      refine nx_normal ⟨E, ?_⟩
      refine env_one 15 (by kernel_rfl) rfl rfl (fun w11 F11 => ?_)
      replace E := E.trans F11
      replace X1 := X1.up F11
      replace Y1 := Y1.up F11
      clear F11
      go_wp2_with fail
      refine (HC2.out w11 E).mono ?_
      rintro e w12 ⟨⟨r2, ys, rfl, rr2, Y2⟩, F12⟩
      have X2 := Sq.own (f := fH) rr2
      replace E := E.trans F12
      replace X1 := X1.up F12
      replace Y1 := Y1.up F12
      clear F12 rr2
      go_wp2_with fail
      refine nx_normal ⟨E, ?_⟩
      refine env_one 16 (by kernel_rfl) rfl rfl (fun w13 F13 => ?_)
      replace E := E.trans F13
      replace X1 := X1.up F13
      replace Y1 := Y1.up F13
      replace X2 := X2.up F13
      replace Y2 := Y2.up F13
      clear F13
      go_wp2_with fail
      refine nx_normal ⟨E, ?_⟩
      refine env_one 17 (by kernel_rfl) rfl rfl (fun w14 F14 => ?_)
      replace E := E.trans F14
      replace X1 := X1.up F14
      replace Y1 := Y1.up F14
      replace X2 := X2.up F14
      replace Y2 := Y2.up F14
      clear F14
      go_wp2_with fail
      refine nx_normal ⟨E, ?_⟩
      refine env_done (by kernel_rfl) (fun w15 F15 => ?_)
      have HX := Lib.hid (And.intro (X1.up F15) (And.intro (Y1.up F15) (And.intro (X2.up F15) (And.intro (Y2.up F15) (HOC.out.2.trans (E.trans F15))))))
      obtain ⟨a15, c15, rfl, hc15, hm15, -⟩ := id X1
      obtain ⟨a16, c16, rfl, hc16, hm16, -⟩ := id X2
      have hxl : xs.length = CT.length := Y1.1
      have hyl : ys.length = CT.length := Y2.1
      rw [hxl] at hc15 HX ⊢
      rw [hyl] at hc16 HX ⊢
      have hctl : CT.length ≤ 100 := by omega
      have HXL := Lib.hid (And.intro hxl hyl)
      clear X1 Y1 X2 Y2 E HC1 HC2 hxl hyl
      go_wp2_with fail
      go_loopw [19] (TelAt w15 CT.length) (fun x _ => CT.length - (intOf x).toNat)
      case atStart => exact ⟨0, by omega, rfl, Fr.refl _ _⟩
      case round =>
        obtain ⟨j, hj, rfl, F⟩ := hrel
        by_cases hjl : j < CT.length
        · have HJ2 := Lib.hid (show j + 1 ≤ CT.length ∧ CT.length - (j + 1) < CT.length - j by omega)
          have hjlz : (j : Int) < (CT.length : Int) := by omega
          have hj0 : (0 : Int) ≤ (j : Int) := by omega
          obtain ⟨x, hx⟩ : ∃ x, xs[j]? = some x := ⟨xs[j]'(by have := HXL.out.1; omega), List.getElem?_eq_getElem _⟩
          obtain ⟨y, hy⟩ : ∃ y, ys[j]? = some y := ⟨ys[j]'(by have := HXL.out.2; omega), List.getElem?_eq_getElem _⟩
          obtain ⟨n, hn⟩ : ∃ n, CT[j]? = some n := ⟨CT[j], List.getElem?_eq_getElem _⟩
          obtain ⟨e1, s1⟩ := HX.out.2.1.2 j x n hx hn
          obtain ⟨e2, s2⟩ := HX.out.2.2.2.1.2 j y n hy hn
          obtain ⟨gx, ox, rfl, x0, x1, x2, x3, x4, x5, x6, x7, x8⟩ := ch_at (HX.out.1.up F) hx
          obtain ⟨gy, oy, rfl, y0, y1, y2, y3, y4, y5, y6, y7, y8⟩ := ch_at (HX.out.2.2.1.up F) hy
          rw [e1] at x0 x1 x2 x3 x4 x5 x6 x7
          rw [e2] at y0 y1 y2 y3 y4 y5 y6 y7
          generalize hdOf n = hh at *
          have HS := Lib.hid (fun (W : World) (F' : Fr [] wr W) => samech_any hh (cesOf cap n.its) x.s.v y.s.v W (by rw [ces_len]; omega) (s1.up (F.trans F')) (s2.up (F.trans F')))
          have HF := Lib.hid F
          have k0 := In.cell x0
          have k1 := In.cell x1
          have k2 := In.cell x2
          have k3 := In.cell x3
          have k4 := In.cell x4
          have k5 := In.cell x5
          have k6 := In.cell x6
          have k7 := In.cell x7
          have k8 := In.cell x8
          have l0 := In.cell y0
          have l1 := In.cell y1
          have l2 := In.cell y2
          have l3 := In.cell y3
          have l4 := In.cell y4
          have l5 := In.cell y5
          have l6 := In.cell y6
          have l7 := In.cell y7
          have l8 := In.cell y8
          generalize x.s.v = xv at *
          generalize y.s.v = yv at *
          clear F e1 e2 s1 s2 hx hy hn x0 x1 x2 x3 x4 x5 x6 x7 x8 y0 y1 y2 y3 y4 y5 y6 y7 y8
          go_wp2_with fail
          refine wp_region_in (by kernel_rfl) (by kernel_rfl) ?_
          repeat (go_big_quiet_step ((go_at_call 19; exact Calls.in_ (HS.out _ (In.fr _)))))
          refine wpQuiet_nil ?_
          intro w16 F16
          clear k0 k1 k2 k3 k4 k5 k6 k7 k8 l0 l1 l2 l3 l4 l5 l6 l7 l8
          go_wp2_with fail
          go_roundw
          case rel => exact ⟨j + 1, HJ2.out.1, by simp, HF.out.trans F16⟩
          case measure => exact meas rfl HJ2.out.2
        · have hjlz : ¬ (j : Int) < (CT.length : Int) := by omega
          have HF := Lib.hid (HX.out.2.2.2.2.trans F)
          clear F
          go_wp2_with fail
          go_ret
          exact ⟨rfl, HF.out⟩
set_option maxRecDepth 100000 in
theorem gtells_open {H : Type} {enc : TypeId × Value → H} {r : Reach} {b0 : Nat} {v : Value} {d : DataW H} {p : List MemPlace} (cells ct cc cwd cvs at_ af lst : Int) (W : World) (t : Word.Tab W) (hv : Value.okWide Tryd.prog W r b0 22 v) (h : DataW.Trod enc Tryd.prog W 0 (fun _ => true) true 22 v d p) (hat : 0 ≤ at_ ∧ at_ < 65536) (haf : 0 ≤ af ∧ af < 65536) :
    Calls Tryd.prog 3 #[v, .int .i64 cells, .agg #[.int .i64 ct, .int .i64 cc, .int .i64 cwd, .int .i64 cvs], .int .u16 at_, .int .u16 af, .int .i64 lst] W fun e w' => e = .returned (.bool true) ∧ Fr [] W w' := by
  obtain ⟨l, hl, hw⟩ := open_items8 hv h
  exact gtells_true l cells ct cc cwd cvs at_ af lst v W t (fun x hx => (hw x hx).1) hat haf hl
end Go.Proofs.YtdnilnjlbobcmaaDoor.Gp
