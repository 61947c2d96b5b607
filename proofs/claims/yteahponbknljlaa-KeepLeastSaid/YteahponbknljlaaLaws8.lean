/- Layer 8's laws: KeepTells, KeepFew. -/
import Derived.Test.YteahponbknljlaaKnown8
import Derived.Test.YteahponbknljlaaKeep
namespace Go.Proofs.Yteahponbknljlaa.Kp
open Go.RowKit Go.Proofs.Yteahponbknljlaa.Ar Go.Proofs.Yteahponbknljlaa.Mx
set_option linter.unusedVariables false
set_option linter.unusedSimpArgs false
theorem it_same (x : It) (W : World) : (binOp .eql 26 (.agg #[.int .i64 x.k, .int .i64 x.v, .int .i64 x.d]) (.agg #[.int .i64 x.k, .int .i64 x.v, .int .i64 x.d])).run Try.prog W = .ok (.bool true) W := by
  rw [it_eql]; simp
theorem up_row {w w' : World} {B sz n : Nat} {E : TypeId} {v : Value} {cs : List Value} (h : w'.ownsRow B E sz v n cs) (hb : w.heap.size ≤ B) : w'.ownsRow w.heap.size E sz v n cs := by
  refine ⟨h.1, h.2.imp id ?_⟩
  rintro ⟨g, cap, cur, e1, e2, e3⟩
  exact ⟨g, cap, cur, e1, Nat.le_trans hb e2, e3⟩
theorem keysT_len (l : List It) : (keysT l).length ≤ l.length := by
  unfold keysT keysS
  rw [← sortT_length l]
  generalize sortT l = s
  suffices h : ∀ (s : List It) (out : List Int), (s.foldl key1 out).length ≤ out.length + s.length by have := h s []; simpa using this
  intro s
  induction s with
  | nil => intro out; simp
  | cons x s ih => intro out; rw [List.foldl_cons]; have := ih (key1 out x); have := key1_len out x; rw [List.length_cons]; omega
set_option maxRecDepth 100000 in
set_option maxHeartbeats 6400000 in
theorem tells_true (l : List It) (vs : List Int) (key version : Int) (v u : Value) (W : World) (hwf : ∀ x, x ∈ l → Wf x.k x.v) (h : Sq fT W v l) (hu : Sq fI W u vs) :
    Calls Try.prog 3 #[v, u, .int .i64 key, .int .i64 version] W fun e w' => e = .returned (.bool true) ∧ Fr [] W w' := by
  obtain ⟨al, cl, rfl, hcl, hml, -⟩ := id h
  obtain ⟨au, cu, rfl, hcu, hmu, -⟩ := id hu
  have HL := Lib.hid (And.intro h hu)
  clear h hu
  go_enter Try.func3, Try.ntmps3
  go_wp2_with fail
  refine (known_any _).mono ?_
  rintro e w0 ⟨rfl, F0⟩
  by_cases h40 : 40 < l.length
  · have h40z : (40 : Int) < (l.length : Int) := by omega
    go_wp2_with fail
    go_ret
    exact ⟨rfl, F0⟩
  have h40z : ¬ (40 : Int) < (l.length : Int) := by omega
  by_cases h12 : 12 < vs.length
  · have h12z : (12 : Int) < (vs.length : Int) := by omega
    go_wp2_with fail
    go_ret
    exact ⟨rfl, F0⟩
  have h12z : ¬ (12 : Int) < (vs.length : Int) := by omega
  have S0 := HL.out.1.up F0
  have U0 := HL.out.2.up F0
  have hll : l.length ≤ 1000 := by omega
  have hvl : vs.length ≤ 1000 := by omega
  have HA := Lib.hid (latest8_any l _ key version w0 hll S0)
  have hB := fun (w : World) (F : Fr [] w0 w) => rlatest_any l _ key version w hll (S0.up F)
  unfold latV at HA hB
  generalize hx : (latT l key version).getD ⟨0, 0, 0⟩ = x at HA hB
  generalize hb : (latT l key version).isSome = b at HA hB
  have HB := Lib.hid hB
  have hE := fun W => it_same x W
  have hG := itGuard
  clear hx hb hB
  have HW := Lib.hid hwf
  clear hwf
  have hl40 : l.length ≤ 40 := by omega
  go_wp2_with fail
  refine HA.out.mono ?_
  rintro e w1 ⟨rfl, F1⟩
  go_wp2_with fail
  have E1 := (Fr.refl [] w1).alloc (.cells #[.int .i64 x.k, .int .i64 x.v, .int .i64 x.d] 26)
  obtain ⟨p0, p1, p2⟩ := cells3 (Go.heap_alloc_new w1 (.cells #[.int .i64 x.k, .int .i64 x.v, .int .i64 x.d] 26))
  have F2 := F1.trans E1
  generalize World.alloc w1 _ = w2 at *
  generalize w1.heap.size = p at *
  clear E1 F1
  refine (HB.out w2 F2).mono ?_
  rintro e w3 ⟨rfl, F3⟩
  have F03 := F2.trans F3
  replace p0 := F3.cell p0 (by simp)
  replace p1 := F3.cell p1 (by simp)
  replace p2 := F3.cell p2 (by simp)
  clear F2 F3
  have E3 := (Fr.refl [] w3).alloc (.cells #[.int .i64 x.k, .int .i64 x.v, .int .i64 x.d] 26)
  have P0 := E3.cell p0 (by simp)
  have P1 := E3.cell p1 (by simp)
  have P2 := E3.cell p2 (by simp)
  obtain ⟨q0, q1, q2⟩ := cells3 (Go.heap_alloc_new w3 (.cells #[.int .i64 x.k, .int .i64 x.v, .int .i64 x.d] 26))
  have F04 := F03.trans E3
  clear p0 p1 p2 E3 F03
  go_wp2_with fail
  generalize World.alloc w3 _ = w4 at *
  generalize w3.heap.size = q at *
  refine (sort8_any l _ w4 hl40 (S0.up F04)).mono ?_
  rintro e w5 ⟨⟨u5, rfl, r5⟩, F5⟩
  have Q5 := Sq.own (f := fT) r5
  replace P0 := F5.cell P0 (by simp)
  replace P1 := F5.cell P1 (by simp)
  replace P2 := F5.cell P2 (by simp)
  replace q0 := F5.cell q0 (by simp)
  replace q1 := F5.cell q1 (by simp)
  replace q2 := F5.cell q2 (by simp)
  have F05 := F04.trans F5
  clear r5 F5 F04
  go_wp2_with fail
  refine (sort_any l _ w5 hll (S0.up F05)).mono ?_
  rintro e w6 ⟨⟨u6, rfl, r6⟩, F6⟩
  have Q6 := Sq.own (f := fT) r6
  replace P0 := F6.cell P0 (by simp)
  replace P1 := F6.cell P1 (by simp)
  replace P2 := F6.cell P2 (by simp)
  replace q0 := F6.cell q0 (by simp)
  replace q1 := F6.cell q1 (by simp)
  replace q2 := F6.cell q2 (by simp)
  have F06 := F05.trans F6
  have hsl : (sortT l).length ≤ 1000000 := by rw [sortT_length]; omega
  have H := sameItems_any (sortT l) (sortT l) u5 u6 w6 hsl hsl (Q5.up F6) Q6
  rw [decide_eq_true rfl] at H
  clear r6 F6 F05 Q5 Q6 hsl
  go_wp2_with fail
  refine H.mono ?_
  rintro e w7 ⟨rfl, F7⟩
  clear H
  replace P0 := F7.cell P0 (by simp)
  replace P1 := F7.cell P1 (by simp)
  replace P2 := F7.cell P2 (by simp)
  replace q0 := F7.cell q0 (by simp)
  replace q1 := F7.cell q1 (by simp)
  replace q2 := F7.cell q2 (by simp)
  have F07 := F06.trans F7
  clear F06 F7
  go_wp2_with fail
  clear P0 P1 P2 q0 q1 q2 hE hG
  refine (keep8_any l vs _ _ w7 hll hvl HW.out (S0.up F07) (U0.up F07)).mono ?_
  rintro e w8 ⟨⟨u8, rfl, r8⟩, F8⟩
  have Q8 := Sq.own (f := fT) r8
  have F08 := F07.trans F8
  clear r8 F8 F07
  go_wp2_with fail
  refine (keep_any l vs _ _ w8 hll hvl (S0.up F08) (U0.up F08)).mono ?_
  rintro e w9 ⟨⟨u9, rfl, r9⟩, F9⟩
  have Q9 := Sq.own (f := fT) r9
  have F09 := F08.trans F9
  have hkl : (keepT l vs).length ≤ 1000000 := by have := keepT_length l vs; omega
  have H := sameItems_any (keepT l vs) (keepT l vs) u8 u9 w9 hkl hkl (Q8.up F9) Q9
  rw [decide_eq_true rfl] at H
  clear r9 F9 F08 Q8 Q9 hkl
  go_wp2_with fail
  refine H.mono ?_
  rintro e w10 ⟨rfl, F10⟩
  clear H
  have F010 := F09.trans F10
  clear F09 F10
  go_wp2_with fail
  refine (keys8_any l _ w10 hll (fun x hx => (HW.out x hx).1) (S0.up F010)).mono ?_
  rintro e w11 ⟨⟨u11, rfl, r11⟩, F11⟩
  have Q11 := Sq.own (f := fI) r11
  have F011 := F010.trans F11
  clear r11 F11 F010
  go_wp2_with fail
  refine (rkeys_any l _ w11 hll (S0.up F011)).mono ?_
  rintro e w12 ⟨⟨u12, rfl, r12⟩, F12⟩
  have Q12 := Sq.own (f := fI) r12
  have F012 := F011.trans F12
  have hkl : (keysT l).length ≤ 1000000 := by have := keysT_len l; omega
  have H := sameI_any (keysT l) (keysT l) u11 u12 w12 hkl hkl (Q11.up F12) Q12
  rw [decide_eq_true rfl] at H
  clear r12 F12 F011 Q11 Q12 hkl
  go_wp2_with fail
  refine H.mono ?_
  rintro e w13 ⟨rfl, F13⟩
  clear H
  have F013 := F0.trans (F012.trans F13)
  clear F012 F13
  go_wp2_with fail
  go_ret
  exact ⟨rfl, F013⟩
def CntAt (w : World) (k : List It) (κ : Int) (u7 u8 : Value) (wr : World) : Prop := ∃ j : Nat, j ≤ k.length ∧ u8 = .int .i64 (j : Nat) ∧ u7 = .int .i64 (((k.take j).countP fun x => x.k == κ : Nat) : Int) ∧ Fr [] w wr
theorem cnt_step {k : List It} {κ : Int} {j : Nat} {y : It} (hy : k[j]? = some y) : (k.take (j + 1)).countP (fun x => x.k == κ) = (k.take j).countP (fun x => x.k == κ) + if y.k == κ then 1 else 0 := by
  rw [List.take_add_one, hy, List.countP_append]; simp [List.countP_cons]
set_option maxRecDepth 100000 in
set_option maxHeartbeats 6400000 in
theorem few_true (l : List It) (vs : List Int) (v u : Value) (W : World) (hwf : ∀ x, x ∈ l → Wf x.k x.v) (h : Sq fT W v l) (hu : Sq fI W u vs) :
    Calls Try.prog 6 #[v, u] W fun e w' => e = .returned (.bool true) ∧ Fr [] W w' := by
  obtain ⟨al, cl, rfl, hcl, hml, -⟩ := id h
  obtain ⟨au, cu, rfl, hcu, hmu, -⟩ := id hu
  have HL := Lib.hid (And.intro h hu)
  clear h hu
  go_enter Try.func6, Try.ntmps6
  go_wp2_with fail
  refine (known_any _).mono ?_
  rintro e w0 ⟨rfl, F0⟩
  by_cases h40 : 40 < l.length
  · have h40z : (40 : Int) < (l.length : Int) := by omega
    go_wp2_with fail
    go_ret
    exact ⟨rfl, F0⟩
  have h40z : ¬ (40 : Int) < (l.length : Int) := by omega
  by_cases h12 : 12 < vs.length
  · have h12z : (12 : Int) < (vs.length : Int) := by omega
    go_wp2_with fail
    go_ret
    exact ⟨rfl, F0⟩
  have h12z : ¬ (12 : Int) < (vs.length : Int) := by omega
  have S0 := HL.out.1.up F0
  have U0 := HL.out.2.up F0
  have hll : l.length ≤ 1000 := by omega
  have hvl : vs.length ≤ 1000 := by omega
  have HW := Lib.hid hwf
  clear hwf
  go_wp2_with fail
  refine (keep8_any l vs _ _ w0 hll hvl HW.out S0 U0).mono ?_
  rintro e w1 ⟨⟨u1, rfl, r1⟩, F1⟩
  have K1 := Sq.own (f := fT) r1
  have S1 := S0.up F1
  have F01 := F0.trans F1
  have HK := Lib.hid (keep_few l vs)
  have HKW := Lib.hid (show ∀ x, x ∈ keepT l vs → Wf x.k x.v from fun x hx => HW.out x (mem_sortT.1 ((keepS_sub vs _).subset hx)))
  have HKK := Lib.hid (keep_keys l vs)
  have hkl : (keepT l vs).length ≤ 1000 := by have := keepT_length l vs; omega
  clear r1 F1 S0 U0 F0
  generalize hk : keepT l vs = k at *
  obtain ⟨ak, ck, rfl, hck, hmk, -⟩ := id K1
  clear hk
  go_wp2_with fail
  go_loopw [6] (fun x wr => ∃ i : Nat, i ≤ k.length ∧ x = .int .i64 (i : Nat) ∧ Fr [] w1 wr) (fun x _ => k.length - (match x with | .int _ z => z.toNat | _ => 0))
  case atStart => exact ⟨0, by omega, rfl, Fr.refl _ _⟩
  case round =>
    obtain ⟨i, hi, rfl, Fi⟩ := hrel
    by_cases hlt : i < k.length
    · obtain ⟨x, hx⟩ : ∃ x, k[i]? = some x := ⟨k[i], List.getElem?_eq_getElem hlt⟩
      have hltz : (i : Int) < (k.length : Int) := by omega
      have hi0 : (0 : Int) ≤ (i : Int) := by omega
      have hin : ((i : Int)).toNat = i := by omega
      have HX := Lib.hid hx
      clear hx
      go_wp2_with fail
      go_loopw [7, 8] (CntAt w1 k x.k) (fun _ x _ => k.length - (match x with | .int _ z => z.toNat | _ => 0))
      case atStart => exact ⟨0, by omega, rfl, by simp, Fi⟩
      case round =>
        obtain ⟨j, hj, rfl, rfl, Fj⟩ := hrel
        have hcb : ((k.take j).countP fun y => y.k == x.k) ≤ j := by
          have := List.countP_le_length (p := fun y : It => y.k == x.k) (l := k.take j)
          rw [List.length_take] at this; omega
        by_cases hjt : j < k.length
        · obtain ⟨y, hy⟩ : ∃ y, k[j]? = some y := ⟨k[j], List.getElem?_eq_getElem hjt⟩
          have hjz : (j : Int) < (k.length : Int) := by omega
          have hj0 : (0 : Int) ≤ (j : Int) := by omega
          have hjn : ((j : Int)).toNat = j := by omega
          have HC := Lib.hid (cnt_step (κ := x.k) hy)
          obtain ⟨gs, os, rfl, y0, -, -⟩ := it_cells (K1.up Fj) hy
          obtain ⟨gs2, os2, e2, x0, -, -⟩ := it_cells (K1.up Fj) HX.out
          cases e2
          generalize (k.take j).countP (fun y => y.k == x.k) = c at *
          have HFj := Lib.hid Fj
          clear hy Fj
          have k0 := In.cell y0
          have k1 := In.cell x0
          by_cases hyx : y.k = x.k
          · have hyb : (y.k == x.k) = true := by simpa using hyx
            have HYB := Lib.hid hyb
            clear hyx
            go_wp2_with fail
            refine wp_region_in (by kernel_rfl) (by kernel_rfl) ?_
            repeat (go_big_quiet_step (fail))
            refine wpQuiet_nil ?_
            intro w5 F5
            clear k0 k1
            go_wp2_with fail
            go_roundw
            case rel => exact ⟨j + 1, by omega, by simp, by rw [HC.out, HYB.out]; simp, HFj.out.trans F5⟩
            case measure => simp; omega
          · have hyb : (y.k == x.k) = false := by simpa using hyx
            have HYB := Lib.hid hyb
            clear hyx
            go_wp2_with fail
            refine wp_region_in (by kernel_rfl) (by kernel_rfl) ?_
            repeat (go_big_quiet_step (fail))
            refine wpQuiet_nil ?_
            intro w5 F5
            clear k0 k1
            go_wp2_with fail
            go_roundw
            case rel => exact ⟨j + 1, by omega, by simp, by rw [HC.out, HYB.out]; simp, HFj.out.trans F5⟩
            case measure => simp; omega
        · have hjz : ¬ (j : Int) < (k.length : Int) := by omega
          have hje : k.length ≤ j := by omega
          rw [List.take_of_length_le hje] at hcb ⊢
          have hf := HK.out x.k
          generalize k.countP (fun y => y.k == x.k) = c at *
          have hfz : ¬ (vs.length : Int) + 1 < (c : Int) := by omega
          go_wp2_with fail
          go_roundw
          case rel => exact ⟨i + 1, by omega, by simp, Fj⟩
          case measure => simp; omega
    · have hltz : ¬ (i : Int) < (k.length : Int) := by omega
      have FF := F01.trans Fi
      have K3 := K1.up Fi
      have S3 := S1.up Fi
      clear K1 S1 Fi F01
      go_wp2_with fail
      refine (keys8_any k _ wr hkl (fun x hx => (HKW.out x hx).1) K3).mono ?_
      rintro e w6 ⟨⟨u6, rfl, r6⟩, F6⟩
      obtain ⟨a6, c6, rfl, -, -, -⟩ := id (Sq.own (f := fI) r6)
      have F06 := FF.trans F6
      have S6 := S3.up F6
      clear r6 F6 FF S3 K3
      go_wp2_with fail
      refine (keys8_any l _ w6 hll (fun x hx => (HW.out x hx).1) S6).mono ?_
      rintro e w7 ⟨⟨u7, rfl, r7⟩, F7⟩
      obtain ⟨a7, c7, rfl, -, -, -⟩ := id (Sq.own (f := fI) r7)
      have F07 := F06.trans F7
      rw [HKK.out]
      clear r7 F7 F06 S6
      go_wp2_with fail
      go_ret
      exact ⟨by simp, F07⟩
theorem tells_open {H : Type} {enc : TypeId × Value → H} {r r' : Reach} {b0 b1 : Nat} {v u : Value} {d d' : DataW H} {p p' : List MemPlace} (key version : Int) (W : World) (hv : Value.okWide Try.prog W r b0 22 v) (h : DataW.Trod enc Try.prog W 0 (fun _ => true) true 22 v d p) (hv' : Value.okWide Try.prog W r' b1 23 u) (h' : DataW.Trod enc Try.prog W 0 (fun _ => true) true 23 u d' p') :
    Calls Try.prog 3 #[v, u, .int .i64 key, .int .i64 version] W fun e w' => e = .returned (.bool true) ∧ Fr [] W w' := by
  obtain ⟨l, hl, hw⟩ := open_items8 hv h
  obtain ⟨vs, hu, -⟩ := open_ints8 hv' h'
  exact tells_true l vs key version v u W (fun x hx => (hw x hx).1) hl hu
theorem few_open {H : Type} {enc : TypeId × Value → H} {r r' : Reach} {b0 b1 : Nat} {v u : Value} {d d' : DataW H} {p p' : List MemPlace} (W : World) (hv : Value.okWide Try.prog W r b0 22 v) (h : DataW.Trod enc Try.prog W 0 (fun _ => true) true 22 v d p) (hv' : Value.okWide Try.prog W r' b1 23 u) (h' : DataW.Trod enc Try.prog W 0 (fun _ => true) true 23 u d' p') :
    Calls Try.prog 6 #[v, u] W fun e w' => e = .returned (.bool true) ∧ Fr [] W w' := by
  obtain ⟨l, hl, hw⟩ := open_items8 hv h
  obtain ⟨vs, hu, -⟩ := open_ints8 hv' h'
  exact few_true l vs v u W (fun x hx => (hw x hx).1) hl hu
end Go.Proofs.Yteahponbknljlaa.Kp
