/- Package keep's Keep. -/
import Derived.Test.YteahponbknljlaaLast8
namespace Go.Proofs.Yteahponbknljlaa.Kp
open Go.RowKit Go.Maps Go.Sort Go.Shelf Go.Proofs.Yteahponbknljlaa.Ar Go.Proofs.Yteahponbknljlaa.Mx
set_option linter.unusedVariables false
set_option linter.unusedSimpArgs false
theorem keepsB_grt {x : It} {nx : Option It} {vs : List Int} (h : (nx.all fun y => y.k != x.k) = true) : keepsB x nx vs = true := by
  rw [keepsB_iff]; left; intro y hy; subst hy; simpa using h
theorem keepsB_any {x y : It} {vs : List Int} (h : y.k = x.k) : keepsB x (some y) vs = anyZ (srtZ vs) x.v y.v := by
  rw [Bool.eq_iff_iff, keepsB_iff]
  unfold anyZ
  rw [List.any_eq_true]
  simp only [Bool.and_eq_true, decide_eq_true_eq, mem_srtZ]
  constructor
  · rintro (h1 | ⟨v, hv, h1, h2⟩)
    · exact absurd h (h1 y rfl)
    · exact ⟨v, hv, h1, (h2 y rfl).resolve_left (fun e => e h)⟩
  · rintro ⟨v, hv, h1, h2⟩
    exact .inr ⟨v, hv, h1, fun z hz => by cases hz; exact .inr h2⟩
theorem greatest_is (x : It) (bs : List It) (v : Value) (w : World) (hl : bs.length ≤ 1000) (h : Sq fT w v bs) (b : Bool) (hb : (bs.head?.all fun y => y.k != x.k) = b) :
    Calls Try.prog 26 #[.agg #[.int .i64 x.k, .int .i64 x.v, .int .i64 x.d], v] w fun e w' => e = .returned (.bool b) ∧ Fr [] w w' := by
  subst hb; exact greatest_any x bs v w hl h
theorem anyFrom_is (zs : List Int) (v : Value) (fr be : Int) (w : World) (hl : zs.length ≤ 1000) (h : Sq fI w v zs) (hs : ∀ (i j : Nat) (a b : Int), i ≤ j → zs[i]? = some a → zs[j]? = some b → a ≤ b) (b : Bool) (hb : anyZ zs fr be = b) :
    Calls Try.prog 27 #[v, .int .i64 fr, .int .i64 be] w fun e w' => e = .returned (.bool b) ∧ Fr [] w w' := by
  subst hb; exact anyFrom_any zs v fr be w hl h hs
theorem tail8 {w : World} {g off n cc i : Nat} {c : List It} (h : Sq fT w (.slice (some ⟨g, off, none⟩) n cc) c) (hi : i < c.length) (hc : c.length ≤ cc) (hm : cc ≤ maxLen) :
    Sq fT w (.slice (if cc = i + 1 then some ⟨g, off, none⟩ else some ⟨g, off + (i + 1) * 3, none⟩) (c.length - (i + 1)) (cc - (i + 1))) (c.drop (i + 1)) := by
  by_cases e : cc = i + 1
  · rw [if_pos e]
    have hn : c.drop (i + 1) = [] := List.drop_eq_nil_of_le (by omega)
    rw [hn, show c.length - (i + 1) = 0 by omega]
    exact Sq.empty w _ (by omega)
  · rw [if_neg e]
    exact Sq.drop fT_lays h (i + 1) (by omega)
def Kp8At (w : World) (c : List It) (vs : List Int) (u x : Value) (wr : World) : Prop := ∃ i out, i ≤ c.length ∧ x = .int .i64 (i : Nat) ∧ out.length ≤ i ∧ wr.ownsRow w.heap.size 26 3 u out.length (out.flatMap fT) ∧ Fr [] w wr ∧ out ++ keepS vs (c.drop i) = keepS vs c
theorem keepS_at8 {vs : List Int} {s : List It} {i : Nat} {x : It} (hx : s[i]? = some x) : keepS vs (s.drop i) = if keepsB x s[i + 1]? vs = true then x :: keepS vs (s.drop (i + 1)) else keepS vs (s.drop (i + 1)) := by
  obtain ⟨hi, rfl⟩ := List.getElem?_eq_some_iff.1 hx
  rw [List.drop_eq_getElem_cons hi, keepS_cons, List.head?_drop]
set_option maxRecDepth 100000 in
set_option maxHeartbeats 6400000 in
theorem keep8_any (l : List It) (vs : List Int) (v u : Value) (w : World) (hl : l.length ≤ 1000) (hvl : vs.length ≤ 1000) (hwf : ∀ x, x ∈ l → Wf x.k x.v) (h : Sq fT w v l) (hv : Sq fI w u vs) :
    Calls Try.prog 15 #[v, u] w fun e w' => (∃ r, e = .returned r ∧ w'.ownsRow w.heap.size 26 3 r (keepT l vs).length ((keepT l vs).flatMap fT)) ∧ Fr [] w w' := by
  obtain ⟨av, cv, rfl, hcv, hmv, -⟩ := id hv
  have F0 := (Fr.refl [] w).alloc (.cells #[.slice av vs.length cv] 23)
  have hm := (cell_of_box_a (Go.heap_alloc_new w (.cells #[.slice av vs.length cv] 23))).1
  have H1 := sortedI_any vs av vs.length cv w.heap.size _ hm (hv.up F0) hvl
  have HL := Lib.hid (And.intro h hwf)
  have HF0 := Lib.hid F0
  clear h hwf hv hm F0
  go_enter Try.func15, Try.ntmps15
  go_wp2_with fail
  refine (ApI.values_any av vs.length cv w).mono ?_; rintro e _ ⟨rfl, rfl⟩
  go_wp2_with fail
  refine H1.mono ?_; rintro e w1 ⟨⟨ua, rfl, ra⟩, F1⟩
  clear H1
  have F01 := HF0.out.trans F1
  have H2 := last_any l v w1 hl HL.out.2 (HL.out.1.up F01)
  go_wp2_with fail
  refine H2.mono ?_; rintro e w2 ⟨⟨uc, c, rfl, hc1, hc2, rc⟩, F2⟩
  clear H2
  have hcl : c.length ≤ 1000 := Nat.le_trans (len_le c l (hc1.imp (fun {a b} hh e => by rw [e] at hh; unfold ltT at hh; omega)) (fun x hx => (List.mem_filter.1 (List.mem_of_getLast? ((hc2 x).1 hx))).1)) hl
  have HK := Lib.hid (keep_of (vs := vs) hc1 hc2)
  have HF2 := Lib.hid (F01.trans F2)
  have SA := (Sq.own (f := fI) ra).up F2
  have hal : (srtZ vs).length ≤ 1000 := by rw [srtZ_len]; exact hvl
  have HSL := Lib.hid (srtZ_le vs)
  have SC := Sq.own (f := fT) rc
  obtain ⟨aa, ca, rfl, hca, hma, -⟩ := id SA
  obtain ⟨ac, cc, rfl, hcc, hmc, -⟩ := id SC
  clear ra rc F1 F2 hc1 hc2 F01 HL HF0
  generalize hzs : srtZ vs = zs at *
  have HZ := Lib.hid hzs
  clear hzs
  go_wp2_with fail
  go_loopw [7, 17] (Kp8At w2 c vs) (fun _ x _ => c.length - (match x with | .int _ z => z.toNat | _ => 0))
  case atStart => exact ⟨0, [], by omega, rfl, by simp, ⟨rfl, .inl ⟨rfl, rfl⟩⟩, Fr.refl _ _, by simp⟩
  case round =>
    obtain ⟨i, out, hi, rfl, ho, hr, F, hk⟩ := hrel
    by_cases hlt : i < c.length
    · obtain ⟨x, hx⟩ : ∃ x, c[i]? = some x := ⟨c[i], List.getElem?_eq_getElem hlt⟩
      have hltz : (i : Int) < (c.length : Int) := by omega
      have hi0 : (0 : Int) ≤ (i : Int) := by omega
      have hin : ((i : Int)).toNat = i := by omega
      have hj0 : (0 : Int) ≤ (i : Int) + 1 := by omega
      have hjn : ((i : Int) + 1).toNat = i + 1 := by omega
      have hjl : (i : Int) + 1 ≤ (c.length : Int) := by omega
      have hjw : IntKind.i64.wrap ((i : Int) + 1) = (i : Int) + 1 := by rw [IntKind.wrap_i64]; omega
      rw [keepS_at8 hx] at hk
      obtain ⟨gs, os, rfl, x0, x1, x2⟩ := it_cells (SC.up F) hx
      have E7 := F.alloc (.cells #[.int .i64 x.k, .int .i64 x.v, .int .i64 x.d] 26)
      obtain ⟨q0, q1, q2⟩ := cells3 (Go.heap_alloc_new wr (.cells #[.int .i64 x.k, .int .i64 x.v, .int .i64 x.d] 26))
      have hr7 := row_keeps hr ((Fr.refl [] wr).alloc (.cells #[.int .i64 x.k, .int .i64 x.v, .int .i64 x.d] 26))
      have SC7 := SC.up E7
      have SA7 := SA.up E7
      obtain ⟨ao, co, rfl, hco, hcm, -⟩ := id (Sq.own (f := fT) hr)
      have HR := Lib.hid (And.intro hr7 E7)
      have HQ := Lib.hid hk
      clear hr F hk hr7
      go_wp2_with fail
      generalize (wr.alloc (.cells #[.int .i64 x.k, .int .i64 x.v, .int .i64 x.d] 26)) = wb at *
      refine wp_region_in (by kernel_rfl) (by kernel_rfl) ?_
      have k0 := In.cell q0
      have k1 := In.cell q1
      have k2 := In.cell q2
      have SD := tail8 SC7 hlt hcc hmc
      have hdl : (c.drop (i + 1)).length ≤ 1000 := by rw [List.length_drop]; omega
      have hdh : (c.drop (i + 1)).head? = c[i + 1]? := List.head?_drop
      by_cases hg : (c[i + 1]?.all fun y => y.k != x.k) = true
      · have HB := Lib.hid (keepsB_grt (vs := vs) hg)
        have hgd : ((c.drop (i + 1)).head?.all fun y => y.k != x.k) = true := by rw [hdh]; exact hg
        clear hg hdh hx
        repeat (go_big_quiet_step ((go_at_call 26; exact Calls.in_ (greatest_is x (c.drop (i + 1)) _ _ hdl (SD.up (In.fr _)) true hgd))))
        refine wpQuiet_nil ?_
        intro w5 F5
        clear k0 k1 k2 SD SC7 SA7
        have r5 := row_keeps HR.out.1 F5
        have F12 := (Fr.refl [] w5).alloc (.cells #[.int .i64 x.k, .int .i64 x.v, .int .i64 x.d] 26)
        have B12 := Go.heap_alloc_new w5 (.cells #[.int .i64 x.k, .int .i64 x.v, .int .i64 x.d] 26)
        have r12 := row_keeps r5 F12
        have HG := Lib.hid ((HR.out.2.trans F5).trans F12)
        have q0' := F5.cell q0 (by simp)
        have q1' := F5.cell q1 (by simp)
        have q2' := F5.cell q2 (by simp)
        clear q0 q1 q2 r5 F12 F5
        go_wp2_with (at_builtin; refine wpList_appSq fT_lays rfl _ _ 22 rfl Try.underlying22 itI rfl (B := w2.heap.size) _ out rfl r12 _ [x] rfl (Sq.block B12 rfl rfl (Nat.le_refl _) (by simp [maxLen])) (by simp; omega) (by decide) HG.out.size ?_; intro a21 c21 w21 r21 f21)
        have HR2 := Lib.hid (show w21.ownsRow w2.heap.size 26 3 (.slice a21 (out.length + 1) c21) (out ++ [x]).length ((out ++ [x]).flatMap fT) by rw [show (Value.slice a21 (out ++ [x]).length c21) = Value.slice a21 (out.length + 1) c21 by simp] at r21; exact r21)
        have HG2 := Lib.hid (HG.out.own f21 (row_base r12))
        clear r21 f21 r12 B12
        go_wp2_with fail
        go_roundw
        case rel => exact ⟨i + 1, out ++ [x], by omega, by simp, by simp; omega, HR2.out, HG2.out, by have := HQ.out; rw [if_pos HB.out] at this; rw [← this]; simp⟩
        case measure => simp; omega
      · obtain ⟨y, hy⟩ : ∃ y, c[i + 1]? = some y := by
          cases hc : c[i + 1]? with
          | none => rw [hc] at hg; simp at hg
          | some y => exact ⟨y, rfl⟩
        have hyk : y.k = x.k := by rw [hy] at hg; simpa using hg
        have hyl : i + 1 < c.length := (List.getElem?_eq_some_iff.1 hy).1
        have hylz : (i : Int) + 1 < (c.length : Int) := by omega
        have hgd : ((c.drop (i + 1)).head?.all fun y => y.k != x.k) = false := by rw [hdh]; simpa using hg
        obtain ⟨gs2, os2, e1, y0, y1, y2⟩ := it_cells SC7 hy
        cases e1
        have k4 := In.cell y1
        have SD : Sq fT wb (.slice (some ⟨gs, os + (i + 1) * 3, none⟩) (c.length - (i + 1)) (cc - (i + 1))) (c.drop (i + 1)) := Sq.drop fT_lays SC7 (i + 1) (by omega)
        have hkb : keepsB x c[i + 1]? vs = anyZ zs x.v y.v := by rw [hy, keepsB_any hyk, HZ.out]
        clear hg hdh hy hyk hx
        cases hany : anyZ zs x.v y.v with
        | true =>
          have HB := Lib.hid (hkb.trans hany)
          clear hkb
          repeat (go_big_quiet_step ((first | (go_at_call 26; exact Calls.in_ (greatest_is x (c.drop (i + 1)) _ _ hdl (SD.up (In.fr _)) false hgd)) | (go_at_call 27; exact Calls.in_ (anyFrom_is zs _ x.v y.v _ hal (SA7.up (In.fr _)) HSL.out true hany)))))
          refine wpQuiet_nil ?_
          intro w5 F5
          clear k0 k1 k2 k4 SD SC7 SA7 y0 y1 y2
          have r5 := row_keeps HR.out.1 F5
          have F12 := (Fr.refl [] w5).alloc (.cells #[.int .i64 x.k, .int .i64 x.v, .int .i64 x.d] 26)
          have B12 := Go.heap_alloc_new w5 (.cells #[.int .i64 x.k, .int .i64 x.v, .int .i64 x.d] 26)
          have r12 := row_keeps r5 F12
          have HG := Lib.hid ((HR.out.2.trans F5).trans F12)
          have q0' := F5.cell q0 (by simp)
          have q1' := F5.cell q1 (by simp)
          have q2' := F5.cell q2 (by simp)
          clear q0 q1 q2 r5 F12 F5
          go_wp2_with (at_builtin; refine wpList_appSq fT_lays rfl _ _ 22 rfl Try.underlying22 itI rfl (B := w2.heap.size) _ out rfl r12 _ [x] rfl (Sq.block B12 rfl rfl (Nat.le_refl _) (by simp [maxLen])) (by simp; omega) (by decide) HG.out.size ?_; intro a21 c21 w21 r21 f21)
          have HR2 := Lib.hid (show w21.ownsRow w2.heap.size 26 3 (.slice a21 (out.length + 1) c21) (out ++ [x]).length ((out ++ [x]).flatMap fT) by rw [show (Value.slice a21 (out ++ [x]).length c21) = Value.slice a21 (out.length + 1) c21 by simp] at r21; exact r21)
          have HG2 := Lib.hid (HG.out.own f21 (row_base r12))
          clear r21 f21 r12 B12
          go_wp2_with fail
          go_roundw
          case rel => exact ⟨i + 1, out ++ [x], by omega, by simp, by simp; omega, HR2.out, HG2.out, by have := HQ.out; rw [if_pos HB.out] at this; rw [← this]; simp⟩
          case measure => simp; omega
        | false =>
          have HB := Lib.hid (hkb.trans hany)
          clear hkb
          repeat (go_big_quiet_step ((first | (go_at_call 26; exact Calls.in_ (greatest_is x (c.drop (i + 1)) _ _ hdl (SD.up (In.fr _)) false hgd)) | (go_at_call 27; exact Calls.in_ (anyFrom_is zs _ x.v y.v _ hal (SA7.up (In.fr _)) HSL.out false hany)))))
          refine wpQuiet_nil ?_
          intro w5 F5
          clear k0 k1 k2 k4 SD SC7 SA7 y0 y1 y2
          have r5 := row_keeps HR.out.1 F5
          go_wp2_with fail
          go_roundw
          case rel => exact ⟨i + 1, out, by omega, by simp, by omega, r5, HR.out.2.trans F5, by have := HQ.out; rw [if_neg (by rw [HB.out]; simp)] at this; exact this⟩
          case measure => simp; omega
    · have hltz : ¬ (i : Int) < (c.length : Int) := by omega
      have hie : c.length ≤ i := by omega
      rw [List.drop_eq_nil_of_le hie] at hk
      have hk2 : out = keepT l vs := by rw [← HK.out, ← hk]; simp [keepS]
      have HR := Lib.hid (And.intro hr F)
      have HO := Lib.hid hk2
      clear hr F SC SA hk hk2
      go_wp2_with fail
      go_ret
      obtain ⟨r9, F9⟩ := HR.out
      refine ⟨⟨_, rfl, ?_⟩, HF2.out.trans F9⟩
      rw [← HO.out]
      refine ⟨r9.1, r9.2.imp id ?_⟩
      rintro ⟨g, cap, cur, e1, e2, e3⟩
      exact ⟨g, cap, cur, e1, Nat.le_trans HF2.out.size e2, e3⟩
end Go.Proofs.Yteahponbknljlaa.Kp
