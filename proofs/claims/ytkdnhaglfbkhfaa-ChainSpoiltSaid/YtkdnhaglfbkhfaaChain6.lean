/- Package chain: whether it is one. -/
import Derived.Test.YtkdnhaglfbkhfaaChain5
namespace Go.Proofs.Ytkdnhaglfbkhfaa.Ch
open Go.RowKit Go.Proofs.Ytkdnhaglfbkhfaa.Ar Go.Proofs.Ytkdnhaglfbkhfaa.Mx Go.Proofs.Ytkdnhaglfbkhfaa.Vw
set_option linter.unusedVariables false
set_option linter.unusedSimpArgs false
def IsAt (w : World) (L : List (Hd × List Ce)) (x : Value) (wr : World) : Prop := ∃ i, i ≤ L.length ∧ x = .int .i64 (i : Nat) ∧ Fr [] w wr ∧ ∀ j y, j < i → L[j]? = some y → standsB y (L.drop (j + 1)) = true
theorem chunks_cells {f : Int → Int} {len n : Nat} {t : Int} : ∀ y, y ∈ chunksF f len n t → y.2.length = n := by
  intro y hy
  unfold chunksF at hy
  obtain ⟨a, -, rfl⟩ := List.mem_map.1 hy
  simp [ckF]
set_option maxRecDepth 100000 in
set_option maxHeartbeats 6400000 in
theorem is_any (t wd v : Int) (n p q : Nat) (s : St) (w : World) (ht : 1 ≤ t) (ht2 : t ≤ 8) (h1 : 1 ≤ n) (h2 : n ≤ 16) (h3 : n ≤ s.l.length) (h4 : s.l.length ≤ 20000) (hA : Ar w p q s) :
    Calls Try.prog 13 #[.agg #[.int .i64 t, .int .i64 n, .int .i64 wd, .int .i64 v], .pointer (some ⟨p, 0, none⟩)] w fun e w' => e = .returned (.bool (isL (chunksF (peek s.l) s.l.length n t))) ∧ Fr [] w w' := by
  have F0 := (Fr.refl [] w).alloc (.cells #[.int .i64 t, .int .i64 n, .int .i64 wd, .int .i64 v] 24)
  obtain ⟨c0, c1, c2, c3⟩ := Pl.cells4 (Ob.new w 24 #[.int .i64 t, .int .i64 n, .int .i64 wd, .int .i64 v])
  have H := Lib.hid (chunks_any t wd v n p q s _ ht ht2 h1 h2 h3 h4 (hA.kept F0 (by simp) (by simp)))
  have hcl := chunks_len (peek s.l) s.l.length n t
  have HCE := Lib.hid (chunks_cells (f := peek s.l) (len := s.l.length) (n := n) (t := t))
  generalize chunksF (peek s.l) s.l.length n t = L at *
  clear hA
  generalize hI : isL L = I
  have HI := Lib.hid hI
  clear hI
  go_enter Try.func13, Try.ntmps13
  go_wp2_with fail
  clear c0 c1 c2 c3
  refine H.out.mono ?_; rintro e w1 ⟨lv, xs, rfl, hr, hC, F1⟩
  clear H
  have FW := F0.trans F1
  have hs := Lib.hid (Sq.own hr)
  have HC := Lib.hid hC
  have hxl : xs.length ≤ 20000 := by rw [hC.len]; omega
  have hlen := hC.len
  obtain ⟨a, cap, rfl, -, -⟩ := row_cell hr
  clear F0 F1 hr hC hcl
  cases L with
  | nil =>
    simp at hlen
    obtain rfl := hlen
    go_wp2_with fail
    go_ret
    exact ⟨by rw [← HI.out]; rfl, FW⟩
  | cons y0 r =>
    cases xs with
    | nil => simp at hlen
    | cons x0 xr =>
      have hm : (x0 :: xr).length = xr.length + 1 := rfl
      obtain ⟨xl, hxl2⟩ : ∃ xl, (x0 :: xr)[xr.length]? = some xl := ⟨(x0 :: xr)[xr.length], List.getElem?_eq_getElem (by simp)⟩
      have hx0 : (x0 :: xr)[0]? = some x0 := rfl
      have HD := Lib.hid (HC.out.hds)
      have HIS := Lib.hid (show isL (y0 :: r) = (decide (x0.hd.mn = 0) && decide (atU xl.hd.nx = 0) && allStand (y0 :: r)) by
        have e := HD.out
        have e1 : x0.hd = y0.1 := by simp at e; exact e.1
        have e2 : lastNx (y0 :: r) = xl.hd.nx := by
          rw [lastNx_eq]
          have h3 := congrArg (fun l : List Hd => (l[xr.length]?.map Hd.nx)) e
          simp only [List.getElem?_map, hxl2, Option.map_some] at h3
          rw [List.getLast?_eq_getElem?, show (y0 :: r).length - 1 = xr.length by simp at hlen; simp; omega]
          cases h4 : (y0 :: r)[xr.length]? with
          | none => rw [h4] at h3; simp at h3
          | some z => rw [h4] at h3; simp at h3; simp [h3]
        show (decide (y0.1.mn = 0) && decide (atU (lastNx (y0 :: r)) = 0) && allStand (y0 :: r)) = _
        rw [e2, e1])
      rw [HIS.out] at HI
      clear HIS
      obtain ⟨g, off, rfl, -, d1, -⟩ := kr_cells hs.out hx0
      obtain ⟨g', off', hg', -, -, -, d3, -⟩ := kr_cells hs.out hxl2
      simp only [Option.some.injEq, Addr.mk.injEq] at hg'
      obtain ⟨rfl, rfl, -⟩ := hg'
      rw [Nat.zero_mul, Nat.add_zero] at d1
      rw [hm] at hs hlen hxl ⊢
      generalize hxs : x0 :: xr = xs at *
      generalize xr.length = m at *
      generalize hL : y0 :: r = L at *
      have HLEN := Lib.hid hlen
      have HXL := Lib.hid (And.intro hx0 hxl2)
      have HXN := Lib.hid (And.intro hm (And.intro hxs hL))
      clear hlen hm hxs hL hx0 hxl2
      by_cases q0 : x0.hd.mn = 0
      · have g0 : (x0.hd.mn != 0) = false := by simpa using q0
        have HQ := Lib.hid q0
        clear q0
        go_wp2_with fail
        refine (at_any _ _).mono ?_; rintro e _ ⟨rfl, rfl⟩
        generalize hau : atU xl.hd.nx = au at *
        by_cases q1 : au = 0
        · have g1 : (au != 0) = false := by simpa using q1
          have HQ1 := Lib.hid q1
          have HAU := Lib.hid hau
          clear q1 d1 d3 hau
          go_wp2_with fail
          go_loopw [35] (fun u wr => IsAt w1 L u wr) (fun u _ => m + 1 - (RowKit.intOf u).toNat)
          case atStart => exact ⟨0, by omega, rfl, Fr.refl _ _, by omega⟩
          case round =>
            obtain ⟨i, hi, rfl, F, hP⟩ := hrel
            rw [← HLEN.out] at hi
            by_cases hlt : i < m + 1
            · obtain ⟨x, hx⟩ : ∃ x, xs[i]? = some x := ⟨xs[i]'(by rw [HXN.out.1]; exact hlt), List.getElem?_eq_getElem _⟩
              obtain ⟨y, hy⟩ : ∃ y, L[i]? = some y := ⟨L[i]'(by rw [← HLEN.out]; exact hlt), List.getElem?_eq_getElem _⟩
              have hsl : Sq fK w1 (.slice (if cap = i + 1 then some ⟨g, off, none⟩ else some ⟨g, off + (i + 1) * 9, none⟩) (m - i) (cap - (i + 1))) (xs.drop (i + 1)) := by
                have h5 := hs.out
                have h6 := HXN.out.1
                obtain ⟨a', c', e, hc1, hc2, -⟩ := id h5
                simp only [Value.slice.injEq] at e
                obtain ⟨rfl, -, rfl⟩ := e
                by_cases hce : cap = i + 1
                · have hmi : m = i := by omega
                  subst hmi
                  rw [List.drop_eq_nil_of_le (by omega), Nat.sub_self]
                  exact Sq.empty _ _ (by omega)
                · have := Sq.drop fK_lays h5 (i + 1) (by omega)
                  rw [h6, Nat.add_sub_add_right] at this
                  rw [if_neg hce]
                  exact this
              have hck := (HC.out.each i x y hx hy).ch (by rw [HCE.out y (List.mem_of_getElem? hy)]; exact h2)
              have hst := HC.out.stands hx hy
              rw [(HC.out.each i x y hx hy).hd] at hst
              obtain ⟨g', off', hg', d0, d1, d2, d3, d4, d5, d6, d7, d8⟩ := kr_cells (hs.out.up F) hx
              simp only [Option.some.injEq, Addr.mk.injEq] at hg'
              obtain ⟨rfl, rfl, -⟩ := hg'
              have HX := Lib.hid (And.intro hx (And.intro hy hP))
              clear hx hP
              have F5 := (Fr.refl [] wr).alloc (.cells #[.int .i64 x.hd.at_, .int .i64 x.hd.mn, .int .i64 x.hd.ct, .int .i64 x.hd.nx, .int .i64 x.hd.ld, .int .i64 x.hd.mt, .int .i64 x.hd.rp, .int .i64 x.hd.st, .slice (some ⟨x.b, 0, none⟩) x.n x.n] 63)
              have o5 := Ob.new wr 63 #[.int .i64 x.hd.at_, .int .i64 x.hd.mn, .int .i64 x.hd.ct, .int .i64 x.hd.nx, .int .i64 x.hd.ld, .int .i64 x.hd.mt, .int .i64 x.hd.rp, .int .i64 x.hd.st, .slice (some ⟨x.b, 0, none⟩) x.n x.n]
              generalize hbv : Value.slice (if cap = i + 1 then some ⟨g, off, none⟩ else some ⟨g, off + (i + 1) * 9, none⟩) (m - i) (cap - (i + 1)) = bv at hsl
              have HCALL := Lib.hid (show ∀ wz, Fr [] w1 wz → Calls Try.prog 26 #[.agg #[.int .i64 x.hd.at_, .int .i64 x.hd.mn, .int .i64 x.hd.ct, .int .i64 x.hd.nx, .int .i64 x.hd.ld, .int .i64 x.hd.mt, .int .i64 x.hd.rp, .int .i64 x.hd.st, .slice (some ⟨x.b, 0, none⟩) x.n x.n], bv] wz fun e w' => e = .returned (.bool (standsB y (L.drop (i + 1)))) ∧ Fr [] wz w' from fun wz Fz => by
                have := stands_any y.1 y.2 _ (xs.drop (i + 1)) bv wz (by rw [HCE.out y (List.mem_of_getElem? hy)]; omega) (hck.up Fz) (hsl.up Fz) (by rw [List.length_drop, HXN.out.1]; omega)
                rw [hst] at this
                exact this)
              have HFI := Lib.hid (F.trans F5)
              rw [← hbv] at HCALL
              clear hsl hbv
              generalize hsb : standsB y (L.drop (i + 1)) = sb at HCALL
              have HSB := Lib.hid hsb
              clear hy hck hst hsb
              go_wp2_with fail
              generalize (wr.alloc (.cells #[.int .i64 x.hd.at_, .int .i64 x.hd.mn, .int .i64 x.hd.ct, .int .i64 x.hd.nx, .int .i64 x.hd.ld, .int .i64 x.hd.mt, .int .i64 x.hd.rp, .int .i64 x.hd.st, .slice (some ⟨x.b, 0, none⟩) x.n x.n] 63)) = w5 at *
              clear d0 d1 d2 d3 d4 d5 d6 d7 d8
              obtain ⟨d0, d1, d2, d3, d4, d5, d6, d7, d8⟩ := ch_cells (h := x.hd) (lv := .slice (some ⟨x.b, 0, none⟩) x.n x.n) o5
              have k0 := In.cell d0
              have k1 := In.cell d1
              have k2 := In.cell d2
              have k3 := In.cell d3
              have k4 := In.cell d4
              have k5 := In.cell d5
              have k6 := In.cell d6
              have k7 := In.cell d7
              have k8 := In.cell d8
              clear d0 d1 d2 d3 d4 d5 d6 d7 d8
              refine wp_region_in (by kernel_rfl) (by kernel_rfl) ?_
              repeat (go_big_quiet_step ((go_at_call 26; exact Calls.in_ (HCALL.out _ (HFI.out.trans (In.fr _))))))
              refine wpQuiet_nil ?_
              intro w6 F6
              have FX := Lib.hid (HFI.out.trans F6)
              clear HCALL k0 k1 k2 k3 k4 k5 k6 k7 k8 F F5 F6 o5
              cases sb with
              | true =>
                go_wp2_with fail
                go_roundw
                case rel => exact ⟨i + 1, by rw [← HLEN.out]; omega, by go_num, FX.out, fun j z hj hz => by
                  by_cases e : j = i
                  · subst e; rw [HX.out.2.1] at hz; cases hz; exact HSB.out
                  · exact HX.out.2.2 j z (by omega) hz⟩
                case measure => simp [RowKit.intOf]; omega
              | false =>
                have HN := Lib.hid (show allStand L = false by
                  cases hA : allStand L with
                  | false => rfl
                  | true =>
                    have := (allStand_iff L).1 hA i y HX.out.2.1
                    rw [HSB.out] at this; cases this)
                go_wp2_with fail
                all_goals
                  go_ret
                  exact ⟨by rw [← HI.out, HN.out]; simp, FW.trans FX.out⟩
            · obtain rfl : i = m + 1 := by omega
              have HP := Lib.hid (show allStand L = true from (allStand_iff L).2 (fun j z hz => hP j z (by rw [HLEN.out]; exact (List.getElem?_eq_some_iff.1 hz).1) hz))
              have FX := Lib.hid (FW.trans F)
              clear hP F
              go_wp2
              go_ret
              exact ⟨by rw [← HI.out, HP.out, HQ.out, HQ1.out]; rfl, FX.out⟩
        · have g1 : (au != 0) = true := by simpa using q1
          have HQ1 := Lib.hid q1
          have HAU := Lib.hid hau
          clear q1 d1 d3 hau
          go_wp2_with fail
          go_ret
          exact ⟨by rw [← HI.out]; have := HQ1.out; simp [this], FW⟩
      · have g0 : (x0.hd.mn != 0) = true := by simpa using q0
        have HQ := Lib.hid q0
        clear q0
        go_wp2_with fail
        go_ret
        exact ⟨by rw [← HI.out]; have := HQ.out; simp [this], FW⟩
end Go.Proofs.Ytkdnhaglfbkhfaa.Ch
