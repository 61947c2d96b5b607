/- Layer 9's laws: GroupKeys. -/
import Derived.Test.YtdnilnjlbobcmaaDoorLaws9
namespace Go.Proofs.YtdnilnjlbobcmaaDoor.Gp
open Go.RowKit Go.Proofs.YtdnilnjlbobcmaaDoor.Ar Go.Proofs.YtdnilnjlbobcmaaDoor.Mx Go.Proofs.YtdnilnjlbobcmaaDoor.Kp
set_option linter.unusedVariables false
set_option linter.unusedSimpArgs false
def KeyAt (w : World) (G : List (List It)) (u x : Value) (wr : World) : Prop := ∃ i : Nat, i ≤ G.length ∧ x = .int .i64 (i : Nat) ∧ wr.ownsRow w.heap.size 43 3 u (G.take i).flatten.length ((G.take i).flatten.flatMap fT) ∧ Fr [] w wr
theorem last_at {g : List It} {x : It} (h : g.getLast? = some x) : g[g.length - 1]? = some x := by rw [← List.getLast?_eq_getElem?]; exact h
theorem flat_le : ∀ (gs : List (List It)) (n : Nat), (gs.take n).flatten.length ≤ gs.flatten.length := flat_take_le
set_option maxRecDepth 100000 in
set_option maxHeartbeats 6400000 in
theorem keys_true (l : List It) (ce : Int) (v : Value) (W : World) (t : Word.Tab W) (hwf : ∀ x, x ∈ l → Wf x.k x.v) (hce : 0 ≤ ce ∧ ce < 256) (h : Sq fT W v l) :
    Calls Tryd.prog 4 #[v, .int .u8 ce] W fun e w' => e = .returned (.bool true) ∧ Fr [] W w' := by
  obtain ⟨al, cl, rfl, hcl, hml, -⟩ := id h
  have HL := Lib.hid h
  clear h
  go_enter Tryd.func4, Tryd.ntmps4
  go_wp2_with fail
  refine (known9_any _ t).mono ?_
  rintro e w0 ⟨rfl, F0⟩
  have t0 := tab_up t F0
  clear t
  by_cases h40 : 40 < l.length
  · have h40z : (40 : Int) < (l.length : Int) := by omega
    go_wp2_with fail
    go_ret
    exact ⟨rfl, F0⟩
  have h40z : ¬ (40 : Int) < (l.length : Int) := by omega
  have hll : l.length ≤ 1000 := by omega
  have HSO := Lib.hid (sort_any l _ w0 hll (HL.out.up F0))
  have HW := Lib.hid (show ∀ y, y ∈ sortT l → (Lit.int .i64 y.k).wf = true from fun y hy => (hwf y (mem_sortT.1 hy)).1)
  have HSR := Lib.hid (sortT_srt l)
  have hsl := sortT_length l
  generalize sortT l = s at *
  have hs40 : s.length ≤ 40 := by omega
  have HSL := Lib.hid hsl
  obtain ⟨k, hk⟩ : ∃ k : Int, ce % 15 + 2 = k := ⟨_, rfl⟩
  have hkb : 2 ≤ k ∧ k ≤ 16 := by omega
  clear hwf hsl
  go_wp2_with fail
  refine HSO.out.mono ?_
  rintro e w1 ⟨⟨u1, rfl, r1⟩, F1⟩
  have S1 := Sq.own (f := fT) r1
  obtain ⟨a1, c1, rfl, hc1, hm1, -⟩ := id S1
  have HS1 := Lib.hid (And.intro S1 (F0.trans F1))
  have HSP := Lib.hid (split9_any s k _ w1 hs40 HSR.out HW.out S1)
  have HLE := Lib.hid (split_len k HSR.out)
  have HPO := Lib.hid (split_pos k HSR.out)
  have HFL := Lib.hid (split_flat k HSR.out)
  have HFU := Lib.hid (fun (h : s ≠ []) => split_full k HSR.out h)
  have HNX := Lib.hid (fun (i j : Nat) (a b : List It) => @split_next s k HSR.out i j a b)
  have HSM := Lib.hid (split_small k HSR.out)
  have hho := halfOf_at hkb.1 hkb.2
  rw [hho] at HSM
  generalize splitT s k = G at *
  clear r1 F1 HSO S1 F0 hho
  go_wp2_with fail
  refine HSP.out.mono ?_
  rintro e w2 ⟨⟨u2, ss, rfl, hsl2, r2, G2⟩, F2⟩
  have S2 := Sq.own (f := fS) r2
  have HG := Lib.hid (And.intro S2 (And.intro G2.gs (And.intro (HS1.out.2.trans F2) (HS1.out.1.up F2))))
  obtain ⟨a2, c2, rfl, hc2, hm2, -⟩ := id S2
  rw [hsl2] at hc2 ⊢
  rw [hsl2] at HG
  have hgl : G.length ≤ 100 := by have := HLE.out; omega
  clear S2 r2 G2 F2 HSP hsl2
  go_wp2_with fail
  go_loopw [8, 9] (KeyAt w2 G) (fun _ x _ => G.length - (intOf x).toNat)
  case atStart => exact ⟨0, by omega, rfl, ⟨rfl, .inl ⟨rfl, rfl⟩⟩, Fr.refl _ _⟩
  case round =>
    obtain ⟨i, hi, rfl, hr, F⟩ := hrel
    by_cases hlt : i < G.length
    · have HI2 := Lib.hid (show i + 1 ≤ G.length ∧ G.length - (i + 1) < G.length - i by omega)
      have hltz : (i : Int) < (G.length : Int) := by omega
      have hi0 : (0 : Int) ≤ (i : Int) := by omega
      obtain ⟨g, hgi⟩ : ∃ g, G[i]? = some g := ⟨G[i], List.getElem?_eq_getElem _⟩
      obtain ⟨gb, ob, s', rfl, hs1, hs2, c0, hsq⟩ := sg_at (HG.out.1.up F) (HG.out.2.1.up F) hgi
      obtain ⟨ax, cx, es, hcx, hmx, -⟩ := id hsq
      have HSQ := Lib.hid (And.intro hsq (And.intro hgi (And.intro hr F)))
      have HFT := Lib.hid (show (G.take (i + 1)).flatten = (G.take i).flatten ++ g from flat_step hgi)
      have HTL := Lib.hid (show (G.take i).flatten.length + g.length ≤ 40 by
        have h1 := flat_take_le G (i + 1)
        rw [HFT.out, List.length_append, HFL.out] at h1
        omega)
      generalize s'.a = ag at *
      generalize s'.c = cg at *
      clear hr F hs1 hs2 es hcx
      cases hgc : g with
      | nil =>
        subst hgc
        have hs0 : s = [] := by
          by_cases h : s = []
          · exact h
          · exact absurd rfl (HFU.out h [] (List.mem_of_getElem? HSQ.out.2.1))
        have hl0 : l.length = 0 := by have := HSL.out; rw [hs0] at this; simpa using this.symm
        have hi00 : i = 0 := by
          have := HLE.out; rw [hs0] at this; simp at this; omega
        have hi0n : ¬ 0 < i := by omega
        have hi0b : decide ((i : Int) > 0) = false := decide_eq_false (by omega)
        have hlb : decide ((l.length : Int) > 0) = false := decide_eq_false (by omega)
        have hln : ¬ 0 < l.length := by omega
        have hbb : decide ((0 : Int) > k / 2) = false := decide_eq_false (by omega)
        have hb2 : ¬ (k / 2 < 0) := by omega
        have k0 := In.cell c0
        have HI0 := Lib.hid (And.intro hl0 hi00)
        clear hsq hi00 hl0 hs0
        go_wp2_with fail
        refine wp_region_in (by kernel_rfl) (by kernel_rfl) ?_
        repeat (go_big_quiet_step (fail))
        refine wpQuiet_nil ?_
        intro w5 F5

        have j0 := In.cell (F5.cell c0 (by simp))
        clear k0
        go_wp2_with fail
        refine wp_region_in (by kernel_rfl) (by kernel_rfl) ?_
        repeat (go_big_quiet_step (fail))
        refine wpQuiet_nil ?_
        intro w6 F6
        have HR2 := Lib.hid (And.intro (row_keeps (row_keeps HSQ.out.2.2.1 F5) F6) (And.intro ((HSQ.out.1.up F5).up F6) (HSQ.out.2.2.2.trans (F5.trans F6))))
        have c6 := F6.cell (F5.cell c0 (by simp)) (by simp)
        clear F5 F6
        clear j0
        go_wp2_with (at_builtin; refine wpList_appSq fT_lays rfl _ _ 22 rfl Tryd.underlying22 itI rfl (B := w2.heap.size) u8 (G.take i).flatten rfl HR2.out.1 _ ([] : List It) rfl HR2.out.2.1 (by have := HTL.out; omega) (by decide) HR2.out.2.2.size ?_; intro a9 c9 w9 r9 f9; rw [← HFT.out] at r9 ⊢; generalize hT : (G.take (i + 1)).flatten = T at r9 ⊢)
        have HR3 := Lib.hid (And.intro r9 (HR2.out.2.2.own f9 (row_base HR2.out.1)))
        have HT := Lib.hid hT
        clear r9 f9 hT
        go_wp2_with fail
        go_roundw
        case rel => exact ⟨i + 1, HI2.out.1, by simp, by rw [HT.out]; exact HR3.out.1, HR3.out.2⟩
        case measure => exact meas rfl HI2.out.2

      | cons x r =>
        have hx0 : g[0]? = some x := by rw [hgc]; rfl
        have hgp : 0 < g.length := by rw [hgc]; simp
        have hsn : s ≠ [] := by
          intro e
          have := HFL.out; rw [e] at this
          have hm : x ∈ G.flatten := List.mem_flatten.2 ⟨g, List.mem_of_getElem? HSQ.out.2.1, by rw [hgc]; simp⟩
          rw [this] at hm; simp at hm
        clear hgc
        obtain ⟨gx, ox, ex, x0, -, -⟩ := it_cells hsq hx0
        simp only [Nat.zero_mul, Nat.add_zero] at x0
        have HEX := Lib.hid ex
        rw [ex] at c0
        have hg0 : ((g.length : Int) == 0) = false := by rw [beq_eq_false_iff_ne]; omega
        have hgpz : decide ((g.length : Int) > 0) = true := by simpa using hgp
        by_cases hi0c : i = 0
        · have hi0n : ¬ 0 < i := by omega
          have hi0b : decide ((i : Int) > 0) = false := decide_eq_false (by omega)
          have k0 := In.cell c0
          clear hsq hi0c
          go_wp2_with fail
          refine wp_region_in (by kernel_rfl) (by kernel_rfl) ?_
          repeat (go_big_quiet_step (fail))
          refine wpQuiet_nil ?_
          intro w5 F5

          clear k0
          by_cases hbig : k / 2 < (g.length : Int)
          · obtain ⟨z, hz⟩ : ∃ z, g[g.length - 1]? = some z := ⟨g[g.length - 1]'(by omega), List.getElem?_eq_getElem _⟩
            have hsame : x.k = z.k := HSM.out g (List.mem_of_getElem? HSQ.out.2.1) hbig x (List.mem_of_getElem? hx0) z (List.mem_of_getElem? hz)
            obtain ⟨gy, oy, ey, y0, -, -⟩ := it_cells (HSQ.out.1.up F5) hz
            rw [HEX.out] at ey
            simp only [Option.some.injEq, Addr.mk.injEq] at ey
            obtain ⟨rfl, rfl, -⟩ := ey
            obtain ⟨n1, hn1⟩ : ∃ n1, g.length = n1 + 1 := ⟨g.length - 1, by omega⟩
            have hn1z : (g.length : Int) = (n1 : Int) + 1 := by omega
            rw [show g.length - 1 = n1 by omega] at y0
            rw [← hsame] at y0
            have j0 := In.cell (F5.cell c0 (by simp))
            have j1 := In.cell (F5.cell x0 (by simp))
            have j2 := In.cell y0
            have hne : (x.k != x.k) = false := by simp
            have hbb : decide ((g.length : Int) > k / 2) = true := by simpa using hbig
            have hn1b : n1 < g.length := by omega
            have hn1bz : (n1 : Int) < (g.length : Int) := by omega
            have hn1p : (0 : Int) ≤ (n1 : Int) := by omega
            have hlm : (g.length : Int) - 1 = (n1 : Int) := by omega
            have hw1 : wrap64 (n1 : Int) = (n1 : Int) := w64 (by have := HTL.out; omega) (by have := HTL.out; omega)
            have HX := Lib.hid (And.intro hx0 hz)
            clear hx0 hz hsame y0 hn1 hn1z
            go_wp2_with fail
            refine wp_region_in (by kernel_rfl) (by kernel_rfl) ?_
            repeat (go_big_quiet_step (fail))
            refine wpQuiet_nil ?_
            intro w6 F6
            have HR2 := Lib.hid (And.intro (row_keeps (row_keeps HSQ.out.2.2.1 F5) F6) (And.intro (show Sq fT w6 (.slice (some ⟨gx, ox, none⟩) g.length cg) g by have := (HSQ.out.1.up F5).up F6; rw [HEX.out] at this; exact this) (HSQ.out.2.2.2.trans (F5.trans F6))))
            have c6 := F6.cell (F5.cell c0 (by simp)) (by simp)
            clear F5 F6
            clear j0 j1 j2 hw1
            go_wp2_with (at_builtin; refine wpList_appSq fT_lays rfl _ _ 22 rfl Tryd.underlying22 itI rfl (B := w2.heap.size) u8 (G.take i).flatten rfl HR2.out.1 _ g rfl HR2.out.2.1 (by have := HTL.out; omega) (by decide) HR2.out.2.2.size ?_; intro a9 c9 w9 r9 f9; rw [← HFT.out] at r9 ⊢; generalize hT : (G.take (i + 1)).flatten = T at r9 ⊢)
            have HR3 := Lib.hid (And.intro r9 (HR2.out.2.2.own f9 (row_base HR2.out.1)))
            have HT := Lib.hid hT
            clear r9 f9 hT
            go_wp2_with fail
            go_roundw
            case rel => exact ⟨i + 1, HI2.out.1, by simp, by rw [HT.out]; exact HR3.out.1, HR3.out.2⟩
            case measure => exact meas rfl HI2.out.2

          · have j0 := In.cell (F5.cell c0 (by simp))
            have hbb : decide ((g.length : Int) > k / 2) = false := by simpa using hbig
            go_wp2_with fail
            refine wp_region_in (by kernel_rfl) (by kernel_rfl) ?_
            repeat (go_big_quiet_step (fail))
            refine wpQuiet_nil ?_
            intro w6 F6
            have HR2 := Lib.hid (And.intro (row_keeps (row_keeps HSQ.out.2.2.1 F5) F6) (And.intro (show Sq fT w6 (.slice (some ⟨gx, ox, none⟩) g.length cg) g by have := (HSQ.out.1.up F5).up F6; rw [HEX.out] at this; exact this) (HSQ.out.2.2.2.trans (F5.trans F6))))
            have c6 := F6.cell (F5.cell c0 (by simp)) (by simp)
            clear F5 F6
            clear j0
            go_wp2_with (at_builtin; refine wpList_appSq fT_lays rfl _ _ 22 rfl Tryd.underlying22 itI rfl (B := w2.heap.size) u8 (G.take i).flatten rfl HR2.out.1 _ g rfl HR2.out.2.1 (by have := HTL.out; omega) (by decide) HR2.out.2.2.size ?_; intro a9 c9 w9 r9 f9; rw [← HFT.out] at r9 ⊢; generalize hT : (G.take (i + 1)).flatten = T at r9 ⊢)
            have HR3 := Lib.hid (And.intro r9 (HR2.out.2.2.own f9 (row_base HR2.out.1)))
            have HT := Lib.hid hT
            clear r9 f9 hT
            go_wp2_with fail
            go_roundw
            case rel => exact ⟨i + 1, HI2.out.1, by simp, by rw [HT.out]; exact HR3.out.1, HR3.out.2⟩
            case measure => exact meas rfl HI2.out.2

        · obtain ⟨j, hj⟩ : ∃ j, i = j + 1 := ⟨i - 1, by omega⟩
          obtain ⟨p, hp⟩ : ∃ p, G[j]? = some p := ⟨G[j]'(by omega), List.getElem?_eq_getElem _⟩
          have hpn := HFU.out hsn p (List.mem_of_getElem? hp)
          have hpl : 0 < p.length := List.length_pos_iff.2 hpn
          have hpb : p.length ≤ 40 := by have := (List.sublist_flatten_of_mem (List.mem_of_getElem? hp)).length_le; rw [HFL.out] at this; omega
          obtain ⟨z, hz⟩ : ∃ z, p[p.length - 1]? = some z := ⟨p[p.length - 1]'(by omega), List.getElem?_eq_getElem _⟩
          have hlt3 := HNX.out j i p g (by omega) hp HSQ.out.2.1 z (List.mem_of_getElem? hz) x (List.mem_of_getElem? hx0)
          obtain ⟨gb', ob', s2, eg, -, -, d0, dsq⟩ := sg_at (HG.out.1.up HSQ.out.2.2.2) (HG.out.2.1.up HSQ.out.2.2.2) hp
          simp only [Option.some.injEq, Addr.mk.injEq] at eg
          obtain ⟨rfl, rfl, -⟩ := eg
          obtain ⟨gz, oz, ez, z0, -, -⟩ := it_cells dsq hz
          rw [ez] at d0
          obtain ⟨n2, hn2⟩ : ∃ n2, p.length = n2 + 1 := ⟨p.length - 1, by omega⟩
          rw [show p.length - 1 = n2 by omega] at z0
          have hlm2 : (p.length : Int) - 1 = (n2 : Int) := by omega
          have hn2b : n2 < p.length := by omega
          have hn2bz : (n2 : Int) < (p.length : Int) := by omega
          have hn2p : (0 : Int) ≤ (n2 : Int) := by omega
          have hij : (i : Int) - 1 = (j : Int) := by omega
          have hjp : (0 : Int) ≤ (j : Int) := by omega
          have hjl : (j : Int) < (G.length : Int) := by omega
          have hi0n : 0 < i := by omega
          have hi0b : decide ((i : Int) > 0) = true := decide_eq_true (by omega)
          have hppz : decide ((p.length : Int) > 0) = true := by simpa using hpl
          have hleq : decide (x.k ≤ z.k) = false := by simpa using hlt3
          have hleq2 : ¬ x.k ≤ z.k := by omega
          have hw2 : wrap64 (n2 : Int) = (n2 : Int) := w64 (by omega) (by omega)
          have k0 := In.cell c0
          have k1 := In.cell x0
          have k2 := In.cell d0
          have k3 := In.cell z0
          clear hsq dsq hi0c hj hp hz hn2 z0 d0 hlt3 hpn
          go_wp2_with fail
          refine wp_region_in (by kernel_rfl) (by kernel_rfl) ?_
          repeat (go_big_quiet_step (fail))
          refine wpQuiet_nil ?_
          intro w5 F5

          clear k0 k1 k2 k3 hw2
          by_cases hbig : k / 2 < (g.length : Int)
          · obtain ⟨z, hz⟩ : ∃ z, g[g.length - 1]? = some z := ⟨g[g.length - 1]'(by omega), List.getElem?_eq_getElem _⟩
            have hsame : x.k = z.k := HSM.out g (List.mem_of_getElem? HSQ.out.2.1) hbig x (List.mem_of_getElem? hx0) z (List.mem_of_getElem? hz)
            obtain ⟨gy, oy, ey, y0, -, -⟩ := it_cells (HSQ.out.1.up F5) hz
            rw [HEX.out] at ey
            simp only [Option.some.injEq, Addr.mk.injEq] at ey
            obtain ⟨rfl, rfl, -⟩ := ey
            obtain ⟨n1, hn1⟩ : ∃ n1, g.length = n1 + 1 := ⟨g.length - 1, by omega⟩
            have hn1z : (g.length : Int) = (n1 : Int) + 1 := by omega
            rw [show g.length - 1 = n1 by omega] at y0
            rw [← hsame] at y0
            have j0 := In.cell (F5.cell c0 (by simp))
            have j1 := In.cell (F5.cell x0 (by simp))
            have j2 := In.cell y0
            have hne : (x.k != x.k) = false := by simp
            have hbb : decide ((g.length : Int) > k / 2) = true := by simpa using hbig
            have hn1b : n1 < g.length := by omega
            have hn1bz : (n1 : Int) < (g.length : Int) := by omega
            have hn1p : (0 : Int) ≤ (n1 : Int) := by omega
            have hlm : (g.length : Int) - 1 = (n1 : Int) := by omega
            have hw1 : wrap64 (n1 : Int) = (n1 : Int) := w64 (by have := HTL.out; omega) (by have := HTL.out; omega)
            have HX := Lib.hid (And.intro hx0 hz)
            clear hx0 hz hsame y0 hn1 hn1z
            go_wp2_with fail
            refine wp_region_in (by kernel_rfl) (by kernel_rfl) ?_
            repeat (go_big_quiet_step (fail))
            refine wpQuiet_nil ?_
            intro w6 F6
            have HR2 := Lib.hid (And.intro (row_keeps (row_keeps HSQ.out.2.2.1 F5) F6) (And.intro (show Sq fT w6 (.slice (some ⟨gx, ox, none⟩) g.length cg) g by have := (HSQ.out.1.up F5).up F6; rw [HEX.out] at this; exact this) (HSQ.out.2.2.2.trans (F5.trans F6))))
            have c6 := F6.cell (F5.cell c0 (by simp)) (by simp)
            clear F5 F6
            clear j0 j1 j2 hw1
            go_wp2_with (at_builtin; refine wpList_appSq fT_lays rfl _ _ 22 rfl Tryd.underlying22 itI rfl (B := w2.heap.size) u8 (G.take i).flatten rfl HR2.out.1 _ g rfl HR2.out.2.1 (by have := HTL.out; omega) (by decide) HR2.out.2.2.size ?_; intro a9 c9 w9 r9 f9; rw [← HFT.out] at r9 ⊢; generalize hT : (G.take (i + 1)).flatten = T at r9 ⊢)
            have HR3 := Lib.hid (And.intro r9 (HR2.out.2.2.own f9 (row_base HR2.out.1)))
            have HT := Lib.hid hT
            clear r9 f9 hT
            go_wp2_with fail
            go_roundw
            case rel => exact ⟨i + 1, HI2.out.1, by simp, by rw [HT.out]; exact HR3.out.1, HR3.out.2⟩
            case measure => exact meas rfl HI2.out.2

          · have j0 := In.cell (F5.cell c0 (by simp))
            have hbb : decide ((g.length : Int) > k / 2) = false := by simpa using hbig
            go_wp2_with fail
            refine wp_region_in (by kernel_rfl) (by kernel_rfl) ?_
            repeat (go_big_quiet_step (fail))
            refine wpQuiet_nil ?_
            intro w6 F6
            have HR2 := Lib.hid (And.intro (row_keeps (row_keeps HSQ.out.2.2.1 F5) F6) (And.intro (show Sq fT w6 (.slice (some ⟨gx, ox, none⟩) g.length cg) g by have := (HSQ.out.1.up F5).up F6; rw [HEX.out] at this; exact this) (HSQ.out.2.2.2.trans (F5.trans F6))))
            have c6 := F6.cell (F5.cell c0 (by simp)) (by simp)
            clear F5 F6
            clear j0
            go_wp2_with (at_builtin; refine wpList_appSq fT_lays rfl _ _ 22 rfl Tryd.underlying22 itI rfl (B := w2.heap.size) u8 (G.take i).flatten rfl HR2.out.1 _ g rfl HR2.out.2.1 (by have := HTL.out; omega) (by decide) HR2.out.2.2.size ?_; intro a9 c9 w9 r9 f9; rw [← HFT.out] at r9 ⊢; generalize hT : (G.take (i + 1)).flatten = T at r9 ⊢)
            have HR3 := Lib.hid (And.intro r9 (HR2.out.2.2.own f9 (row_base HR2.out.1)))
            have HT := Lib.hid hT
            clear r9 f9 hT
            go_wp2_with fail
            go_roundw
            case rel => exact ⟨i + 1, HI2.out.1, by simp, by rw [HT.out]; exact HR3.out.1, HR3.out.2⟩
            case measure => exact meas rfl HI2.out.2
    · obtain rfl : i = G.length := by omega
      rw [List.take_length] at hr
      have S8 := Sq.own (f := fT) hr
      obtain ⟨a8, c8, rfl, hc8, hm8, -⟩ := id S8
      have hpo : (G.length : Int) ≥ 1 := by have := HPO.out; omega
      have hpo1 : 1 ≤ G.length := HPO.out
      have HE := Lib.hid (sameItems_any G.flatten s _ _ wr (by rw [HFL.out]; omega) (by omega) S8 (HG.out.2.2.2.up F))
      rw [show decide (G.flatten = s) = true from decide_eq_true HFL.out] at HE
      have HF := Lib.hid (HG.out.2.2.1.trans F)
      generalize hT : G.flatten = T at *
      generalize hn : T.length = n8 at *
      clear hr S8 F hT hn
      go_wp2_with fail
      refine HE.out.mono ?_
      rintro e w9 ⟨rfl, F9⟩
      go_wp2_with fail
      go_ret
      exact ⟨rfl, HF.out.trans F9⟩
set_option maxRecDepth 100000 in
theorem gkeys_open {H : Type} {enc : TypeId × Value → H} {r : Reach} {b0 : Nat} {v : Value} {d : DataW H} {p : List MemPlace} (ce : Int) (W : World) (t : Word.Tab W) (hv : Value.okWide Tryd.prog W r b0 22 v) (h : DataW.Trod enc Tryd.prog W 0 (fun _ => true) true 22 v d p) (hce : 0 ≤ ce ∧ ce < 256) :
    Calls Tryd.prog 4 #[v, .int .u8 ce] W fun e w' => e = .returned (.bool true) ∧ Fr [] W w' := by
  obtain ⟨l, hl, hw⟩ := open_items8 hv h
  exact keys_true l ce v W t (fun x hx => (hw x hx).1) hce hl
end Go.Proofs.YtdnilnjlbobcmaaDoor.Gp
