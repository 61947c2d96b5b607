/- Layer 9's laws: GroupMins. -/
import Derived.Test.YtdnilnjlbobcmaaDoorLaws9
namespace Go.Proofs.YtdnilnjlbobcmaaDoor.Gp
open Go.RowKit Go.Proofs.YtdnilnjlbobcmaaDoor.Ar Go.Proofs.YtdnilnjlbobcmaaDoor.Mx Go.Proofs.YtdnilnjlbobcmaaDoor.Kp
set_option linter.unusedVariables false
set_option linter.unusedSimpArgs false
def LowAt (w : World) (l : List It) (b : Int) (x : Value) (wr : World) : Prop := ∃ i : Nat, i ≤ l.length ∧ x = .int .i64 (i : Nat) ∧ (∀ y, y ∈ l.take i → b ≤ y.k) ∧ Fr [] w wr
def MinsAt (w : World) (n : Nat) (x : Value) (wr : World) : Prop := ∃ i : Nat, i + 1 ≤ n ∧ x = .int .i64 ((i : Int) + 1) ∧ Fr [] w wr
set_option maxRecDepth 100000 in
set_option maxHeartbeats 6400000 in
theorem mins_true (l : List It) (ce lst : Int) (v : Value) (W : World) (t : Word.Tab W) (hwf : ∀ x, x ∈ l → Wf x.k x.v) (hce : 0 ≤ ce ∧ ce < 256) (hls : 0 ≤ lst ∧ lst < 256) (h : Sq fT W v l) :
    Calls Tryd.prog 7 #[v, .int .u8 ce, .int .u8 lst] W fun e w' => e = .returned (.bool true) ∧ Fr [] W w' := by
  obtain ⟨al, cl, rfl, hcl, hml, -⟩ := id h
  have HL := Lib.hid h
  clear h
  go_enter Tryd.func7, Tryd.ntmps7
  go_wp2_with fail
  refine (known9_any _ t).mono ?_
  rintro e w0 ⟨rfl, F0⟩
  have t0 := tab_up t F0
  clear t
  by_cases h40 : 40 < l.length
  · have h40z : (40 : Int) < (l.length : Int) := by omega
    go_wp2_with fail
    go_ret
    exact ⟨rfl, F0⟩
  have h40z : ¬ (40 : Int) < (l.length : Int) := by omega
  have hll : l.length ≤ 1000 := by omega
  go_wp2_with fail
  go_loopw [7] (LowAt w0 l lst) (fun x _ => l.length - (intOf x).toNat)
  case atStart => exact ⟨0, by omega, rfl, by simp, Fr.refl _ _⟩
  case round =>
    obtain ⟨i, hi, rfl, hlow, F⟩ := hrel
    by_cases hlt : i < l.length
    · have HI2 := Lib.hid (show i + 1 ≤ l.length ∧ l.length - (i + 1) < l.length - i by omega)
      have hltz : (i : Int) < (l.length : Int) := by omega
      have hi0 : (0 : Int) ≤ (i : Int) := by omega
      obtain ⟨x, hx⟩ : ∃ x, l[i]? = some x := ⟨l[i], List.getElem?_eq_getElem _⟩
      obtain ⟨gl, ol, rfl, x0, x1, x2⟩ := it_cells (HL.out.up (F0.trans F)) hx
      have HF := Lib.hid (F0.trans F)
      have HF2 := Lib.hid F
      clear F
      by_cases hk : x.k < lst
      · clear hlow hx
        go_wp2_with fail
        go_ret
        exact ⟨rfl, HF.out⟩
      · have HLW := Lib.hid (show ∀ y, y ∈ l.take (i + 1) → lst ≤ y.k by
          rw [List.take_add_one, hx]
          intro y hy
          rcases List.mem_append.1 hy with hy | hy
          · exact hlow y hy
          · simp at hy; subst hy; omega)
        clear hlow hx
        go_wp2_with fail
        go_roundw
        case rel => exact ⟨i + 1, HI2.out.1, by simp, HLW.out, HF2.out⟩
        case measure => exact meas rfl HI2.out.2
    · have hge : ¬ (i : Int) < (l.length : Int) := by omega
      rw [List.take_of_length_le (by omega)] at hlow
      have HLW := Lib.hid (show ∀ y, y ∈ sortT l → lst ≤ y.k from fun y hy => hlow y (mem_sortT.1 hy))
      have HW := Lib.hid (show ∀ y, y ∈ sortT l → (Lit.int .i64 y.k).wf = true from fun y hy => (hwf y (mem_sortT.1 hy)).1)
      have HSR := Lib.hid (sortT_srt l)
      have hsl := sortT_length l
      have HSO := Lib.hid (sort_any l _ wr hll (HL.out.up (F0.trans F)))
      have HF := Lib.hid (F0.trans F)
      have tr := tab_up t0 F
      generalize sortT l = s at *
      have hs40 : s.length ≤ 40 := by omega
      clear hlow hwf F hsl
      go_wp2_with fail
      refine HSO.out.mono ?_
      rintro e w1 ⟨⟨u1, rfl, r1⟩, F1⟩
      have S1 := Sq.own (f := fT) r1
      have t1 := tab_up tr F1
      have HF1 := Lib.hid (HF.out.trans F1)
      obtain ⟨a1, c1, rfl, hc1, hm1, -⟩ := id S1
      obtain ⟨k, hk⟩ : ∃ k : Int, ce % 15 + 2 = k := ⟨_, rfl⟩
      have HSP := Lib.hid (split9_any s k _ w1 hs40 HSR.out HW.out S1)
      have HLE := Lib.hid (split_len k HSR.out)
      have HPO := Lib.hid (split_pos k HSR.out)
      have HRI := Lib.hid (fun (i : Nat) (a b : List It) (m : Int) => @mins_rise s k lst HSR.out HLW.out i a b m)
      generalize splitT s k = G at *
      clear r1 F1 HSO tr S1
      go_wp2_with fail
      refine HSP.out.mono ?_
      rintro e w2 ⟨⟨u2, ss, rfl, hsl2, r2, G2⟩, F2⟩
      have S2 := Sq.own (f := fS) r2
      have HG := Lib.hid (And.intro S2 (And.intro G2.gs (HF1.out.trans F2)))
      obtain ⟨a2, c2, rfl, hc2, hm2, -⟩ := id S2
      rw [hsl2] at hc2 ⊢
      rw [hsl2] at HG
      have hgl : G.length ≤ 100 := by have := HLE.out; omega
      have HM := Lib.hid (mins9_any lst G ss _ w2 (by omega) S2 G2.gs)
      rw [hsl2] at HM
      clear S2 r2 G2 F2 HSP hsl2
      go_wp2_with fail
      refine HM.out.mono ?_
      rintro e w3 ⟨⟨rfl, o3⟩, F3⟩
      have hml := minsT_length lst G
      have hm0 := mins_zero lst (gs := G) (fun e => by have := HPO.out; rw [e] at this; simp at this)
      generalize minsT lst G = ms at *
      have m0 := o3.segCell fI_lays (i := 0) (j := 0) hm0 rfl
      simp only [Nat.zero_mul, Nat.add_zero] at m0
      have HX := Lib.hid (And.intro o3 (And.intro hml (And.intro F3 hm0)))
      generalize w2.heap.size = bm at *
      have hpoz : (1 : Int) ≤ (G.length : Int) := by have := HPO.out; omega
      have hG1 : 1 ≤ G.length := HPO.out
      have hposz : (0 : Int) < (G.length : Int) := by omega
      clear o3 hml F3 hm0 HM
      go_wp2_with fail
      go_loopw [10] (MinsAt w3 G.length) (fun x _ => G.length - (intOf x).toNat)
      case atStart => exact ⟨0, by omega, rfl, Fr.refl _ _⟩
      case round =>
        obtain ⟨j, hj, rfl, F⟩ := hrel
        by_cases hlj : j + 1 < G.length
        · have HJ2 := Lib.hid (show j + 1 + 1 ≤ G.length ∧ G.length - (j + 1 + 1) < G.length - (j + 1) by omega)
          have hljz : (j : Int) + 1 < (G.length : Int) := by omega
          have hj0 : (0 : Int) ≤ (j : Int) + 1 := by omega
          obtain ⟨ga, hga⟩ : ∃ g, G[j]? = some g := ⟨G[j], List.getElem?_eq_getElem _⟩
          obtain ⟨gb, hgb⟩ : ∃ g, G[j + 1]? = some g := ⟨G[j + 1], List.getElem?_eq_getElem _⟩
          obtain ⟨m, hm⟩ : ∃ m, ms[j]? = some m := ⟨ms[j]'(by have := HX.out.2.1; omega), List.getElem?_eq_getElem _⟩
          obtain ⟨x, y, hax, hby, hmn, hlt2⟩ := HRI.out j ga gb m hga hgb hm
          have oj := HX.out.1.up F
          have c0 : wr.cell? ⟨bm, j, none⟩ = some (.int .i64 m) := by simpa using oj.segCell fI_lays (i := j) (j := 0) hm rfl
          have c1' : wr.cell? ⟨bm, j + 1, none⟩ = some (.int .i64 y.k) := by simpa using oj.segCell fI_lays (i := j + 1) (j := 0) hmn rfl
          obtain ⟨gx, ox, s', rfl, -, -, cg, hsq⟩ := sg_at (HG.out.1.up (HX.out.2.2.1.trans F)) (HG.out.2.1.up (HX.out.2.2.1.trans F)) hgb
          obtain ⟨yr, rfl⟩ : ∃ yr, gb = y :: yr := by cases gb with | nil => simp at hby | cons z r => simp at hby; exact ⟨r, by rw [hby]⟩
          obtain ⟨gz, oz, ez, z0, -, -⟩ := it_cells hsq (i := 0) rfl
          rw [ez] at cg
          simp only [Nat.zero_mul, Nat.add_zero] at z0
          have hgp : 0 < (y :: yr).length := by simp
          generalize hln : (y :: yr).length = ln at *
          have k0 := In.cell c0
          have k1 := In.cell c1'
          have k2 := In.cell cg
          have k3 := In.cell z0
          have hdm : ¬ y.k ≤ m := by omega
          have hdb : decide (y.k ≤ m) = false := by simpa using hdm
          have HF := Lib.hid F
          clear hga hgb hm hax hby hmn F oj c0 c1' cg z0 hsq
          go_wp2_with fail
          refine wp_region_in (by kernel_rfl) (by kernel_rfl) ?_
          repeat (go_big_quiet_step (fail))
          refine wpQuiet_nil ?_
          intro w5 F5
          clear k0 k1 k2 k3
          go_wp2_with fail
          go_roundw
          case rel => exact ⟨j + 1, HJ2.out.1, by simp, HF.out.trans F5⟩
          case measure => exact meas rfl HJ2.out.2
        · have hljz : ¬ (j : Int) + 1 < (G.length : Int) := by omega
          have HF := Lib.hid (HG.out.2.2.trans (HX.out.2.2.1.trans F))
          clear F
          go_wp2_with fail
          go_ret
          exact ⟨rfl, HF.out⟩
set_option maxRecDepth 100000 in
theorem mins_open {H : Type} {enc : TypeId × Value → H} {r : Reach} {b0 : Nat} {v : Value} {d : DataW H} {p : List MemPlace} (ce lst : Int) (W : World) (t : Word.Tab W) (hv : Value.okWide Tryd.prog W r b0 22 v) (h : DataW.Trod enc Tryd.prog W 0 (fun _ => true) true 22 v d p) (hce : 0 ≤ ce ∧ ce < 256) (hls : 0 ≤ lst ∧ lst < 256) :
    Calls Tryd.prog 7 #[v, .int .u8 ce, .int .u8 lst] W fun e w' => e = .returned (.bool true) ∧ Fr [] W w' := by
  obtain ⟨l, hl, hw⟩ := open_items8 hv h
  exact mins_true l ce lst v W t (fun x hx => (hw x hx).1) hce hls hl
end Go.Proofs.YtdnilnjlbobcmaaDoor.Gp
