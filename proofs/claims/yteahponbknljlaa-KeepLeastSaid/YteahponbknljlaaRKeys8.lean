/- The reference's Keys (layer 8). -/
import Derived.Test.YteahponbknljlaaCmp2
namespace Go.Proofs.Yteahponbknljlaa.Kp
open Go.RowKit Go.Proofs.Yteahponbknljlaa.Ar Go.Proofs.Yteahponbknljlaa.Mx
set_option linter.unusedVariables false
set_option linter.unusedSimpArgs false
theorem key1_new {out : List Int} {x : It} (h : out.getLast? ≠ some x.k) : key1 out x = out ++ [x.k] := by unfold key1; rw [if_neg h]
theorem key1_old {out : List Int} {x : It} (h : out.getLast? = some x.k) : key1 out x = out := by unfold key1; rw [if_pos h]
theorem keysS_step {s : List It} {i : Nat} {x : It} (hx : s[i]? = some x) : keysS (s.take (i + 1)) = key1 (keysS (s.take i)) x := by
  unfold keysS; rw [List.take_add_one, hx, List.foldl_append]; rfl
theorem key1_len (out : List Int) (x : It) : (key1 out x).length ≤ out.length + 1 := by unfold key1; split <;> simp
def RKyAt (w : World) (s : List It) (u x : Value) (wr : World) : Prop :=
  ∃ i : Nat, i ≤ s.length ∧ x = .int .i64 (i : Nat) ∧ (keysS (s.take i)).length ≤ i ∧ wr.ownsRow w.heap.size 3 1 u (keysS (s.take i)).length ((keysS (s.take i)).flatMap fI) ∧ Fr [] w wr
set_option maxRecDepth 100000 in
set_option maxHeartbeats 3200000 in
theorem rkeys_any (l : List It) (v : Value) (w : World) (hl : l.length ≤ 1000) (h : Sq fT w v l) :
    Calls Try.prog 19 #[v] w fun e w' => (∃ u, e = .returned u ∧ w'.ownsRow w.heap.size 3 1 u (keysT l).length ((keysT l).flatMap fI)) ∧ Fr [] w w' := by
  unfold keysT
  go_enter Try.func19, Try.ntmps19
  go_wp2_with fail
  refine (sort_any l v w hl h).mono ?_; rintro e w1 ⟨⟨u1, rfl, r1⟩, F1⟩
  have hs1 : (sortT l).length ≤ 1000 := by rw [sortT_length]; exact hl
  generalize hso : sortT l = s at *
  have HSO := Lib.hid hso
  clear hso
  obtain ⟨asl, csl, rfl, hcs, hms, -⟩ := id (Sq.own (f := fT) r1)
  have S1 := Sq.own (f := fT) r1
  have HF1 := Lib.hid F1
  clear r1 h F1
  go_wp2_with fail
  go_loopw [4, 5] (RKyAt w1 s) (fun _ x _ => s.length - (match x with | .int _ z => z.toNat | _ => 0))
  case atStart => exact ⟨0, by omega, rfl, by simp [keysS], ⟨rfl, .inl ⟨rfl, rfl⟩⟩, Fr.refl _ _⟩
  case round =>
    obtain ⟨i, hi, rfl, hlen, hr, F⟩ := hrel
    by_cases hlt : i < s.length
    · obtain ⟨x, hx⟩ : ∃ x, s[i]? = some x := ⟨s[i], List.getElem?_eq_getElem hlt⟩
      have hltz : (i : Int) < (s.length : Int) := by omega
      have hi0 : (0 : Int) ≤ (i : Int) := by omega
      have hin : ((i : Int)).toNat = i := by omega
      have HS := Lib.hid (keysS_step hx)
      obtain ⟨gs, os, rfl, x0, x1, x2⟩ := it_cells (S1.up F) hx
      generalize hout : keysS (s.take i) = out at *
      have HO := Lib.hid hout
      have HR := Lib.hid (And.intro hr F)
      obtain ⟨ao, co, rfl, hco, hcm, -⟩ := id (Sq.own (f := fI) hr)
      have SO := Sq.own (f := fI) hr
      by_cases he : out = []
      · have hol : out.length = 0 := by rw [he]; rfl
        have holz : ((out.length : Int) == 0) = true := by rw [hol]; rfl
        have HN := Lib.hid (key1_new (out := out) (x := x) (by rw [he]; simp))
        have hol2 : out.length ≤ 0 := by omega
        clear hx F S1 hout hr SO he hol
        go_wp2_with fail
        refine wp_region_in (by kernel_rfl) (by kernel_rfl) ?_
        have k0 := In.cell x0
        repeat (go_big_quiet_step (fail))
        refine wpQuiet_nil ?_
        intro w5 F5
        clear k0
        have r5 := row_keeps HR.out.1 F5
        have x0' := F5.cell x0 (by simp)
        have F12 := (Fr.refl [] w5).alloc (.cells #[.int .i64 x.k] 3)
        have B12 := Go.heap_alloc_new w5 (.cells #[.int .i64 x.k] 3)
        have r12 := row_keeps r5 F12
        have HG := Lib.hid ((HR.out.2.trans F5).trans F12)
        clear x0 r5 F12 F5
        go_wp2_with (at_builtin; refine wpList_appSq fI_lays rfl _ _ 23 rfl Try.underlying23 intI rfl (B := w1.heap.size) _ out rfl r12 _ [x.k] rfl (Sq.block B12 rfl rfl (Nat.le_refl _) (by simp [maxLen])) (by simp; omega) (by decide) HG.out.size ?_; intro a21 c21 w21 r21 f21)
        have HR2 := Lib.hid (show w21.ownsRow w1.heap.size 3 1 (.slice a21 (out.length + 1) c21) (out ++ [x.k]).length ((out ++ [x.k]).flatMap fI) by rw [show (Value.slice a21 (out ++ [x.k]).length c21) = Value.slice a21 (out.length + 1) c21 by simp] at r21; exact r21)
        have HG2 := Lib.hid (HG.out.own f21 (row_base r12))
        clear r21 f21 r12 B12
        go_wp2_with fail
        go_roundw
        case rel => exact ⟨i + 1, by omega, by simp, by rw [HS.out, HN.out]; simp; omega, by rw [HS.out, HN.out]; exact HR2.out, HG2.out⟩
        case measure => simp; omega
      · obtain ⟨m, hm⟩ : ∃ m, out.length = m + 1 := ⟨out.length - 1, by have := List.length_pos_iff.2 he; omega⟩
        obtain ⟨z, hz⟩ : ∃ z, out[m]? = some z := ⟨out[m], List.getElem?_eq_getElem (by omega)⟩
        have hlast : out.getLast? = some z := by rw [List.getLast?_eq_getElem?, show out.length - 1 = m by omega]; exact hz
        have holz : ((out.length : Int) == 0) = false := by simp; omega
        have hmz : (out.length : Int) - 1 = (m : Int) := by omega
        have hm1 : (m : Int) < (out.length : Int) := by omega
        have hm0 : (0 : Int) ≤ (m : Int) := by omega
        have hmt : ((m : Int)).toNat = m := by omega
        obtain ⟨go, oo, rfl, z0⟩ := int_cell SO hz
        by_cases hzk : z = x.k
        · have HN := Lib.hid (key1_old (x := x) (by rw [hlast, hzk]))
          have hzb : (z != x.k) = false := by simpa using hzk
          clear hx F S1 hout hr SO he hm hz hlast hzk
          go_wp2_with fail
          refine wp_region_in (by kernel_rfl) (by kernel_rfl) ?_
          have k0 := In.cell x0
          have k1 := In.cell z0
          repeat (go_big_quiet_step (fail))
          refine wpQuiet_nil ?_
          intro w5 F5
          clear k0
          clear k1
          have r5 := row_keeps HR.out.1 F5
          go_wp2_with fail
          go_roundw
          case rel => exact ⟨i + 1, by omega, by simp, by rw [HS.out, HN.out]; omega, by rw [HS.out, HN.out]; exact r5, HR.out.2.trans F5⟩
          case measure => simp; omega
        · have HN := Lib.hid (key1_new (x := x) (by rw [hlast]; exact fun e => hzk (Option.some.inj e)))
          have hzb : (z != x.k) = true := by simpa using hzk
          clear hx F S1 hout hr SO he hm hz hlast hzk
          go_wp2_with fail
          refine wp_region_in (by kernel_rfl) (by kernel_rfl) ?_
          have k0 := In.cell x0
          have k1 := In.cell z0
          repeat (go_big_quiet_step (fail))
          refine wpQuiet_nil ?_
          intro w5 F5
          clear k0
          clear k1
          have r5 := row_keeps HR.out.1 F5
          have x0' := F5.cell x0 (by simp)
          have F12 := (Fr.refl [] w5).alloc (.cells #[.int .i64 x.k] 3)
          have B12 := Go.heap_alloc_new w5 (.cells #[.int .i64 x.k] 3)
          have r12 := row_keeps r5 F12
          have HG := Lib.hid ((HR.out.2.trans F5).trans F12)
          clear x0 r5 F12 F5
          go_wp2_with (at_builtin; refine wpList_appSq fI_lays rfl _ _ 23 rfl Try.underlying23 intI rfl (B := w1.heap.size) _ out rfl r12 _ [x.k] rfl (Sq.block B12 rfl rfl (Nat.le_refl _) (by simp [maxLen])) (by simp; omega) (by decide) HG.out.size ?_; intro a21 c21 w21 r21 f21)
          have HR2 := Lib.hid (show w21.ownsRow w1.heap.size 3 1 (.slice a21 (out.length + 1) c21) (out ++ [x.k]).length ((out ++ [x.k]).flatMap fI) by rw [show (Value.slice a21 (out ++ [x.k]).length c21) = Value.slice a21 (out.length + 1) c21 by simp] at r21; exact r21)
          have HG2 := Lib.hid (HG.out.own f21 (row_base r12))
          clear r21 f21 r12 B12
          go_wp2_with fail
          go_roundw
          case rel => exact ⟨i + 1, by omega, by simp, by rw [HS.out, HN.out]; simp; omega, by rw [HS.out, HN.out]; exact HR2.out, HG2.out⟩
          case measure => simp; omega
    · have hltz : ¬ (i : Int) < (s.length : Int) := by omega
      have hie : s.length ≤ i := by omega
      rw [List.take_of_length_le hie] at hr
      have HR := Lib.hid (And.intro hr F)
      clear hr F S1
      go_wp2_with fail
      go_ret
      obtain ⟨r9, F9⟩ := HR.out
      refine ⟨⟨_, rfl, ?_⟩, HF1.out.trans F9⟩
      rw [HSO.out]
      refine ⟨r9.1, r9.2.imp id ?_⟩
      rintro ⟨g, cap, cur, e1, e2, e3⟩
      exact ⟨g, cap, cur, e1, Nat.le_trans HF1.out.size e2, e3⟩
end Go.Proofs.Yteahponbknljlaa.Kp
