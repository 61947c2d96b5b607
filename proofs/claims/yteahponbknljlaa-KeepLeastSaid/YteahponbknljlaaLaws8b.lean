/- Layer 8's laws: KeepMore. -/
import Derived.Test.YteahponbknljlaaLaws8
namespace Go.Proofs.Yteahponbknljlaa.Kp
open Go.RowKit Go.Proofs.Yteahponbknljlaa.Ar Go.Proofs.Yteahponbknljlaa.Mx
set_option linter.unusedVariables false
set_option linter.unusedSimpArgs false
theorem it_eq (x y : It) (W : World) : (binOp .eql 26 (.agg #[.int .i64 x.k, .int .i64 x.v, .int .i64 x.d]) (.agg #[.int .i64 y.k, .int .i64 y.v, .int .i64 y.d])).run Try.prog W = .ok (.bool (decide (x = y))) W := by
  rw [it_eql]
  congr 2
  obtain ⟨k, v, d⟩ := x
  obtain ⟨k', v', d'⟩ := y
  rw [Bool.eq_iff_iff]; simp [and_assoc]
/-- A slice of the call's own: versions, and one more. -/
theorem drop_same {α : Type} {a b : List α} {i n : Nat} {x : α} (ha : a[n]? = some x) (hb : b[i]? = some x) (h : (a.drop n).Sublist (b.drop i)) : (a.drop (n + 1)).Sublist (b.drop (i + 1)) := by
  obtain ⟨h1, e1⟩ := List.getElem?_eq_some_iff.1 ha
  obtain ⟨h2, e2⟩ := List.getElem?_eq_some_iff.1 hb
  rw [List.drop_eq_getElem_cons h1, List.drop_eq_getElem_cons h2, e1, e2] at h
  exact List.cons_sublist_cons.1 h
theorem drop_other {α : Type} {a b : List α} {i n : Nat} {x y : α} (ha : a[n]? = some x) (hb : b[i]? = some y) (hne : y ≠ x) (h : (a.drop n).Sublist (b.drop i)) : (a.drop n).Sublist (b.drop (i + 1)) := by
  obtain ⟨h1, e1⟩ := List.getElem?_eq_some_iff.1 ha
  obtain ⟨h2, e2⟩ := List.getElem?_eq_some_iff.1 hb
  rw [List.drop_eq_getElem_cons h1, List.drop_eq_getElem_cons h2, e1, e2] at h
  rw [List.drop_eq_getElem_cons h1, e1]
  cases h with
  | cons _ h => exact h
  | cons_cons _ h => exact absurd rfl hne
def MorAt (w : World) (a b : List It) (u9 u10 : Value) (wr : World) : Prop := ∃ i n : Nat, i ≤ b.length ∧ n ≤ a.length ∧ u10 = .int .i64 (i : Nat) ∧ u9 = .int .i64 (n : Nat) ∧ (a.drop n).Sublist (b.drop i) ∧ Fr [] w wr
set_option maxRecDepth 100000 in
set_option maxHeartbeats 6400000 in
theorem more_true (l : List It) (vs : List Int) (more : Int) (v u : Value) (W : World) (hwf : ∀ x, x ∈ l → Wf x.k x.v) (h : Sq fT W v l) (hu : Sq fI W u vs) :
    Calls Try.prog 8 #[v, u, .int .i64 more] W fun e w' => e = .returned (.bool true) ∧ Fr [] W w' := by
  obtain ⟨al, cl, rfl, hcl, hml, -⟩ := id h
  obtain ⟨au, cu, rfl, hcu, hmu, -⟩ := id hu
  have HL := Lib.hid (And.intro h hu)
  clear h hu
  go_enter Try.func8, Try.ntmps8
  go_wp2_with fail
  refine (known_any _).mono ?_
  rintro e w0 ⟨rfl, F0⟩
  by_cases h40 : 40 < l.length
  · have h40z : (40 : Int) < (l.length : Int) := by omega
    go_wp2_with fail
    go_ret
    exact ⟨rfl, F0⟩
  have h40z : ¬ (40 : Int) < (l.length : Int) := by omega
  by_cases h12 : 12 < vs.length
  · have h12z : (12 : Int) < (vs.length : Int) := by omega
    go_wp2_with fail
    go_ret
    exact ⟨rfl, F0⟩
  have h12z : ¬ (12 : Int) < (vs.length : Int) := by omega
  have S0 := HL.out.1.up F0
  have U0 := HL.out.2.up F0
  have hll : l.length ≤ 1000 := by omega
  have hvl : vs.length ≤ 1000 := by omega
  have HW := Lib.hid hwf
  clear hwf
  go_wp2_with fail
  refine (keep8_any l vs _ _ w0 hll hvl HW.out S0 U0).mono ?_
  rintro e w1 ⟨⟨u1, rfl, r1⟩, F1⟩
  have K1 := Sq.own (f := fT) r1
  have S1 := S0.up F1
  have U1 := U0.up F1
  have F01 := F0.trans F1
  clear r1 F1 S0 U0 F0
  go_wp2_with (first
    | (at_builtin; refine wpList_appSq fI_lays rfl _ _ 23 rfl Try.underlying23 intI rfl (B := w1.heap.size) (.slice none 0 0) [] rfl ⟨rfl, .inl ⟨rfl, rfl⟩⟩ _ vs rfl U1 (by simp; omega) (by decide) (Nat.le_refl _) ?_; intro a2 c2 w2 r2 f2; rw [List.nil_append] at r2 ⊢
       have G2 := (Fr.refl [] w1).own f2 (by simp [Value.ownBlock])
       have E2 := G2.alloc (.cells #[.int .i64 more] 3)
       have B2 := Go.heap_alloc_new w2 (.cells #[.int .i64 more] 3)
       have r2' := row_keeps r2 ((Fr.refl [] w2).alloc (.cells #[.int .i64 more] 3))
       clear f2 r2)
    | (at_builtin; refine wpList_appSq fI_lays rfl _ _ 23 rfl Try.underlying23 intI rfl (B := w1.heap.size) _ vs rfl r2' _ [more] rfl (Sq.block B2 rfl rfl (Nat.le_refl _) (by simp [maxLen])) (by simp; omega) (by decide) E2.size ?_; intro a3 c3 w3 r3 f3; generalize hvm : vs ++ [more] = vm at r3 ⊢))
  have G3 := E2.own f3 (row_base r2')
  have V3 := Sq.own (f := fI) r3
  have S3 := S1.up G3
  have K3 := K1.up G3
  have F03 := F01.trans G3
  have hvml : vm.length ≤ 1000 := by rw [← hvm]; simp; omega
  have HS := Lib.hid (show (keepT l vs).Sublist (keepT l vm) by rw [← hvm]; exact keep_more l vs more)
  clear r3 f3 r2' B2 E2 G2 G3 K1 S1 U1 F01 hvm
  refine (keep8_any l vm _ _ w3 hll hvml HW.out S3 V3).mono ?_
  rintro e w4 ⟨⟨u4, rfl, r4⟩, F4⟩
  have K4 := K3.up F4
  have M4 := Sq.own (f := fT) r4
  have F04 := F03.trans F4
  have hkl : (keepT l vs).length ≤ 1000 := by have := keepT_length l vs; omega
  have hml : (keepT l vm).length ≤ 1000 := by have := keepT_length l vm; omega
  clear r4 F4 F03 K3 S3 V3
  generalize keepT l vs = a at *
  generalize keepT l vm = b at *
  obtain ⟨aa, ca, rfl, hca, hma, -⟩ := id K4
  obtain ⟨ab, cb, rfl, hcb, hmb, -⟩ := id M4
  go_wp2_with fail
  go_loopw [9, 10] (MorAt w4 a b) (fun _ x _ => b.length - (match x with | .int _ z => z.toNat | _ => 0))
  case atStart => exact ⟨0, 0, by omega, by omega, rfl, rfl, by simpa using HS.out, Fr.refl _ _⟩
  case round =>
    obtain ⟨i, n, hi, hn, rfl, rfl, hs, F⟩ := hrel
    have HSS := Lib.hid hs
    clear hs
    by_cases hib : i < b.length
    · have hibz : (i : Int) < (b.length : Int) := by omega
      by_cases hna : n < a.length
      · have hnaz : (n : Int) < (a.length : Int) := by omega
        have hi0 : (0 : Int) ≤ (i : Int) := by omega
        have hin : ((i : Int)).toNat = i := by omega
        have hn0 : (0 : Int) ≤ (n : Int) := by omega
        have hnn : ((n : Int)).toNat = n := by omega
        obtain ⟨x, hx⟩ : ∃ x, a[n]? = some x := ⟨a[n], List.getElem?_eq_getElem hna⟩
        obtain ⟨y, hy⟩ : ∃ y, b[i]? = some y := ⟨b[i], List.getElem?_eq_getElem hib⟩
        obtain ⟨gs, os, rfl, x0, x1, x2⟩ := it_cells (K4.up F) hx
        obtain ⟨gt, ot, rfl, y0, y1, y2⟩ := it_cells (M4.up F) hy
        have k0 := In.cell x0
        have k1 := In.cell x1
        have k2 := In.cell x2
        have l0 := In.cell y0
        have l1 := In.cell y1
        have l2 := In.cell y2
        have hE := it_eq y x
        have hG := itGuard
        obtain ⟨q, hq⟩ : ∃ q, decide (y = x) = q := ⟨_, rfl⟩
        rw [hq] at hE
        have HQ := Lib.hid (And.intro hq (And.intro hx hy))
        have HF := Lib.hid F
        clear hq hx hy x0 x1 x2 y0 y1 y2 F
        go_wp2_with fail
        refine wp_region_in (by kernel_rfl) (by kernel_rfl) ?_
        repeat (go_big_quiet_step (fail))
        refine wpQuiet_nil ?_
        intro w5 F5
        clear k0 k1 k2 l0 l1 l2 hE hG
        cases q with
        | true =>
          go_wp2_with fail
          go_roundw
          case rel => exact ⟨i + 1, n + 1, by omega, by omega, by simp, by simp, by
            have e : y = x := of_decide_eq_true HQ.out.1
            exact drop_same HQ.out.2.1 (e ▸ HQ.out.2.2) HSS.out, HF.out.trans F5⟩
          case measure => simp; omega
        | false =>
          go_wp2_with fail
          go_roundw
          case rel => exact ⟨i + 1, n, by omega, by omega, by simp, rfl, drop_other HQ.out.2.1 HQ.out.2.2 (of_decide_eq_false HQ.out.1) HSS.out, HF.out.trans F5⟩
          case measure => simp; omega
      · have hnaz : ¬ (n : Int) < (a.length : Int) := by omega
        have hne : n = a.length := by omega
        have hneb : ((n : Int) == (a.length : Int)) = true := by rw [hne]; simp
        have hge : (a.length : Int) ≤ (b.length : Int) := by have := HS.out.length_le; omega
        have HF := Lib.hid (F04.trans F)
        clear F F04 hne
        go_wp2_with fail
        go_ret
        exact ⟨rfl, HF.out⟩
    · have hibz : ¬ (i : Int) < (b.length : Int) := by omega
      have hnl : n = a.length := by
        have := HSS.out.length_le
        simp at this; omega
      have hneb : ((n : Int) == (a.length : Int)) = true := by rw [hnl]; simp
      have hge : (a.length : Int) ≤ (b.length : Int) := by have := HS.out.length_le; omega
      have HF := Lib.hid (F04.trans F)
      clear F F04 hnl
      go_wp2_with fail
      go_ret
      exact ⟨rfl, HF.out⟩
theorem more_open {H : Type} {enc : TypeId × Value → H} {r r' : Reach} {b0 b1 : Nat} {v u : Value} {d d' : DataW H} {p p' : List MemPlace} (more : Int) (W : World) (hv : Value.okWide Try.prog W r b0 22 v) (h : DataW.Trod enc Try.prog W 0 (fun _ => true) true 22 v d p) (hv' : Value.okWide Try.prog W r' b1 23 u) (h' : DataW.Trod enc Try.prog W 0 (fun _ => true) true 23 u d' p') :
    Calls Try.prog 8 #[v, u, .int .i64 more] W fun e w' => e = .returned (.bool true) ∧ Fr [] W w' := by
  obtain ⟨l, hl, hw⟩ := open_items8 hv h
  obtain ⟨vs, hu, -⟩ := open_ints8 hv' h'
  exact more_true l vs more v u W (fun x hx => (hw x hx).1) hl hu
end Go.Proofs.Yteahponbknljlaa.Kp
