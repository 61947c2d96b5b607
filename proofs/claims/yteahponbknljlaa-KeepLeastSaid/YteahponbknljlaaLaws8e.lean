/- Layer 8's laws: KeepLeast. -/
import Derived.Test.YteahponbknljlaaLaws8d
namespace Go.Proofs.Yteahponbknljlaa.Kp
open Go.RowKit Go.Proofs.Yteahponbknljlaa.Ar Go.Proofs.Yteahponbknljlaa.Mx
set_option linter.unusedVariables false
set_option linter.unusedSimpArgs false
theorem wf_le {f : Int} (h : (Lit.int .i64 f).wf = true) : f ≤ 9223372036854775807 := by
  have h2 := h; simp [Lit.wf, IntKind.min, IntKind.max, IntKind.signed, IntKind.bits] at h2; omega
theorem keep_none {l : List It} {vs : List Int} (h : keepT l vs = []) : l = [] := by
  have := keep_keys l vs
  rw [h] at this
  cases l with
  | nil => rfl
  | cons x l =>
    have hm : x.k ∈ keysT (x :: l) := mem_keysT.2 ⟨x, by simp, rfl⟩
    rw [← this] at hm
    obtain ⟨y, hy, -⟩ := mem_keysT.1 hm
    exact absurd hy (by simp)
/-- At each version up to number i what is kept and what is kept but one tell the same. -/
def SameTo (k m : List It) (κ : Int) (vm : List Int) (i : Nat) : Prop := ∀ j, j < i → ∀ y, vm[j]? = some y → latT k κ y = latT m κ y
theorem lat_same {a b : Option It} (h1 : a.getD ⟨0, 0, 0⟩ = b.getD ⟨0, 0, 0⟩) (h2 : a.isSome = b.isSome) : a = b := by
  cases a <;> cases b <;> simp_all
set_option maxRecDepth 100000 in
set_option maxHeartbeats 6400000 in
theorem least_true (l : List It) (vs : List Int) (at8 : Int) (v u : Value) (W : World) (hwf : ∀ x, x ∈ l → Wf x.k x.v) (h : Sq fT W v l) (hu : Sq fI W u vs) (ha8 : 0 ≤ at8 ∧ at8 ≤ 255) :
    Calls Try.prog 5 #[v, u, .int .u8 at8] W fun e w' => e = .returned (.bool true) ∧ Fr [] W w' := by
  obtain ⟨ha0, ha1⟩ := ha8
  obtain ⟨al, cl, rfl, hcl, hml, -⟩ := id h
  obtain ⟨au, cu, rfl, hcu, hmu, -⟩ := id hu
  have HL := Lib.hid (And.intro h hu)
  clear h hu
  go_enter Try.func5, Try.ntmps5
  go_wp2_with fail
  refine (known_any _).mono ?_
  rintro e w0 ⟨rfl, F0⟩
  by_cases h40 : 40 < l.length
  · have h40z : (40 : Int) < (l.length : Int) := by omega
    go_wp2_with fail
    go_ret
    exact ⟨rfl, F0⟩
  have h40z : ¬ (40 : Int) < (l.length : Int) := by omega
  by_cases h12 : 12 < vs.length
  · have h12z : (12 : Int) < (vs.length : Int) := by omega
    go_wp2_with fail
    go_ret
    exact ⟨rfl, F0⟩
  have h12z : ¬ (12 : Int) < (vs.length : Int) := by omega
  have S0 := HL.out.1.up F0
  have U0 := HL.out.2.up F0
  have hll : l.length ≤ 1000 := by omega
  have hvl : vs.length ≤ 1000 := by omega
  have HW := Lib.hid hwf
  clear hwf
  go_wp2_with fail
  refine (keep8_any l vs _ _ w0 hll hvl HW.out S0 U0).mono ?_
  rintro e w1 ⟨⟨u1, rfl, r1⟩, F1⟩
  have K1 := Sq.own (f := fT) r1
  have S1 := S0.up F1
  have U1 := U0.up F1
  have F01 := F0.trans F1
  have hkl : (keepT l vs).length ≤ l.length := keepT_length l vs
  have HKW := Lib.hid (show ∀ x, x ∈ keepT l vs → Wf x.k x.v from fun x hx => HW.out x (mem_sortT.1 ((keepS_sub vs _).subset hx)))
  have HKE := Lib.hid (fun (h : keepT l vs = []) => keep_none h)
  have HKA := Lib.hid (And.intro (keepT_srt l vs) (asked_keep l vs))
  have HKG := Lib.hid (keep_again l vs)
  clear r1 F1 S0 U0 F0
  generalize hk : keepT l vs = k at *
  obtain ⟨ak, ck, rfl, hck, hmk, -⟩ := id K1
  clear hk
  have hkll : k.length ≤ 1000 := by omega
  have hkm : k.length ≤ 1000000 := by omega
  go_wp2_with fail
  refine (keep8_any k vs _ _ w1 hkll hvl HKW.out K1 U1).mono ?_
  rintro e w2 ⟨⟨u2, rfl, r2⟩, F2⟩
  have R2 := Sq.own (f := fT) r2
  rw [HKG.out] at R2
  have K2 := K1.up F2
  have U2 := U1.up F2
  have F02 := F01.trans F2
  clear r2 F2 K1 U1 F01 S1
  have H := sameItems_any k k u2 _ w2 hkm hkm R2 K2
  rw [decide_eq_true rfl] at H
  clear R2
  go_wp2_with fail
  refine H.mono ?_
  rintro e w3 ⟨rfl, F3⟩
  clear H
  have K3 := K2.up F3
  have U3 := U2.up F3
  have F03 := F02.trans F3
  clear K2 U2 F02 F3
  by_cases hkz : k.length = 0
  · have hk0 := List.eq_nil_of_length_eq_zero hkz
    have hl0 := HKE.out hk0
    subst hk0 hl0
    go_wp2_with fail
    go_ret
    exact ⟨by simp, F03⟩
  have hkzz : ((k.length : Int) == 0) = false := by rw [beq_eq_false_iff_ne]; omega
  have hkpos : (0 : Int) < (k.length : Int) := by omega
  have hkne : (k.length : Int) ≠ 0 := by omega
  obtain ⟨j, hj⟩ : ∃ j : Nat, at8 % (k.length : Int) = j := ⟨(at8 % (k.length : Int)).toNat, by have := Int.emod_nonneg at8 hkne; omega⟩
  have hjl : j < k.length := by have := Int.emod_lt_of_pos at8 hkpos; rw [hj] at this; omega
  have hjt : Int.tmod at8 (k.length : Int) = j := by rw [Int.tmod_eq_emod_of_nonneg ha0]; exact hj
  go_wp2_with fail
  clear hj hjt
  obtain ⟨x, hx⟩ : ∃ x, k[j]? = some x := ⟨k[j], List.getElem?_eq_getElem hjl⟩
  have hke : k = k.take j ++ x :: k.drop (j + 1) := by
    obtain ⟨h1, e1⟩ := List.getElem?_eq_some_iff.1 hx
    rw [← e1, ← List.drop_eq_getElem_cons h1, List.take_append_drop]
  have hxM : x.v ≤ 9223372036854775807 := wf_le (HKW.out x (List.mem_of_getElem? hx)).2
  obtain ⟨v0, hv0, hl1, hl2⟩ := keep_least (M := 9223372036854775807) HKA.out.1 HKA.out.2 hke hxM
  have HX := Lib.hid hx
  have HLS := Lib.hid (And.intro hl1 hl2)
  have HV0 := Lib.hid hv0
  obtain ⟨gs, os, rfl, x0, x1, x2⟩ := it_cells K3 hx
  have ST := Sq.take fT_lays K3 j (by omega)
  have SD := tail8 K3 (i := j) hjl hck hmk
  clear hx hl1 hl2 hv0 x0 x1 x2
  have hT1l : (k.take j).length ≤ 100 := by rw [List.length_take]; omega
  have hT2l : (k.drop (j + 1)).length ≤ 100 := by rw [List.length_drop]; omega
  have hj0 : (0 : Int) ≤ (j : Int) := by omega
  have hjn : ((j : Int)).toNat = j := by omega
  have hjz : (j : Int) < (k.length : Int) := by omega
  have hjle : (j : Int) ≤ (k.length : Int) := by omega
  have hj1 : (j : Int) + 1 ≤ (k.length : Int) := by omega
  have hj1n : ((j : Int) + 1).toNat = j + 1 := by omega
  have hj10 : (0 : Int) ≤ (j : Int) + 1 := by omega
  have hjcc : (j : Int) ≤ (ck : Int) := by omega
  have HKEq := Lib.hid hke
  clear hke
  refine wp_region_env (by kernel_rfl) [] (fun w4 F4 => ?_)
  refine env_pass [true, true, true, false, true, true, true, true, false, false] 3 (n := 101) rfl (by kernel_rfl) (by kernel_rfl) (by kernel_rfl) rfl rfl (fun _ _ d _ _ h => by cases d <;> exact h) F4 ?_
  apply Exists.intro
  refine ⟨fun wf Ff => ?_, ?_⟩
  · simp only [sel]
    repeat (go_big_quiet_step (fail))
    exact wpQuiet_nil rfl
  generalize hadr : (if ck = j + 1 then (some ⟨gs, os, none⟩ : Option Addr) else some ⟨gs, os + (j + 1) * 3, none⟩) = adr at SD ⊢
  clear hadr
  generalize k.take j = T1 at *
  generalize k.drop (j + 1) = T2 at *
  refine env_one 3 (by kernel_rfl) rfl rfl (fun w10 F10 => ?_)
  have G := F4.trans F10
  clear F10 F4
  have S1' := ST.up G
  go_wp2_with (at_builtin; refine wpList_appSq fT_lays rfl _ _ 22 rfl Try.underlying22 itI rfl (B := w3.heap.size) (.slice none 0 0) [] rfl ⟨rfl, .inl ⟨rfl, rfl⟩⟩ _ (T1) rfl S1' (by simp; omega) (by decide) G.size ?_; intro a21 c21 w21 r21 f21)
  rw [List.nil_append] at r21
  replace G := G.trans f21
  clear S1' f21 ST
  refine nx_normal ⟨G, ?_⟩
  refine env_one 8 (by kernel_rfl) rfl rfl (fun w11 F11 => ?_)
  have r22 := row_keeps r21 F11
  replace G := G.trans F11
  clear r21 F11
  have S2' := SD.up G
  go_wp2_with (at_builtin; refine wpList_appSq fT_lays rfl _ _ 22 rfl Try.underlying22 itI rfl (B := w3.heap.size) _ T1 rfl r22 _ T2 rfl S2' (by omega) (by decide) G.size ?_; intro a25 c25 w25 r25 f25; generalize hT4 : T1 ++ T2 = m at r25 ⊢)
  replace G := G.own f25 (row_base r22)
  clear f25 r22 S2' SD
  refine nx_normal ⟨G, ?_⟩
  refine env_one 9 (by kernel_rfl) rfl rfl (fun w15 F15 => ?_)
  have r26 := row_keeps r25 F15
  replace G := G.trans F15
  clear r25 F15
  go_wp2
  refine nx_normal ⟨G, ?_⟩
  refine env_done (by kernel_rfl) (fun w16 F16 => ?_)
  have r27 := row_keeps r26 F16
  replace G := G.trans F16
  clear r26 F16
  have M16 := Sq.own (f := fT) r27
  have K16 := K3.up G
  have U16 := U3.up G
  have F016 := F03.trans G
  have hml2 : m.length ≤ 1000 := by rw [← hT4, List.length_append]; omega
  rw [hT4] at HLS
  clear r27 G K3 U3 F03 hT4 hT1l hT2l
  go_wp2_with (first
    | (at_builtin; refine wpList_appSq fI_lays rfl _ _ 23 rfl Try.underlying23 intI rfl (B := w16.heap.size) (.slice none 0 0) [] rfl ⟨rfl, .inl ⟨rfl, rfl⟩⟩ _ vs rfl U16 (by simp; omega) (by decide) (Nat.le_refl _) ?_; intro a2 c2 w2 r2 f2; rw [List.nil_append] at r2 ⊢
       have G2 := (Fr.refl [] w16).own f2 (by simp [Value.ownBlock])
       have E2 := G2.alloc (.cells #[.int .i64 9223372036854775807] 3)
       have B2 := Go.heap_alloc_new w2 (.cells #[.int .i64 9223372036854775807] 3)
       have r2' := row_keeps r2 ((Fr.refl [] w2).alloc (.cells #[.int .i64 9223372036854775807] 3))
       clear f2 r2)
    | (at_builtin; refine wpList_appSq fI_lays rfl _ _ 23 rfl Try.underlying23 intI rfl (B := w16.heap.size) _ vs rfl r2' _ [9223372036854775807] rfl (Sq.block B2 rfl rfl (Nat.le_refl _) (by simp [maxLen])) (by simp; omega) (by decide) E2.size ?_; intro a3 c3 w3 r3 f3))
  have G3 := E2.own f3 (row_base r2')
  have V3 := Sq.own (f := fI) r3
  have M3 := M16.up G3
  have K3 := K16.up G3
  have F03 := F016.trans G3
  have hvml : (vs ++ [(9223372036854775807 : Int)]).length ≤ 1000 := by simp; omega
  clear r3 f3 r2' B2 E2 G2 G3 K16 M16 U16 F016
  have hv1 : (vs ++ [(9223372036854775807 : Int)]).length ≤ vs.length + 1 := by simp
  have hv2 : vs.length + 1 ≤ (vs ++ [(9223372036854775807 : Int)]).length := by simp
  generalize vs ++ [(9223372036854775807 : Int)] = vm at *
  obtain ⟨av, cv, hve, hcv, hmv, -⟩ := id V3
  obtain ⟨rfl, -, rfl⟩ := Value.slice.inj hve
  go_wp2_with fail
  go_loopw [11] (fun u wr => ∃ i : Nat, i ≤ vm.length ∧ u = .int .i64 (i : Nat) ∧ SameTo k m x.k vm i ∧ Fr [] w3 wr) (fun u _ => vm.length - (match u with | .int _ z => z.toNat | _ => 0))
  case atStart => exact ⟨0, by omega, rfl, fun j hj => absurd hj (by omega), Fr.refl _ _⟩
  case round =>
    obtain ⟨i, hi, rfl, hs, Fi⟩ := hrel
    have HS := Lib.hid hs
    clear hs
    by_cases hit : i < vm.length
    · obtain ⟨y, hy⟩ : ∃ y, vm[i]? = some y := ⟨vm[i], List.getElem?_eq_getElem hit⟩
      have hiz : (i : Int) < (vm.length : Int) := by omega
      have hiz2 : (i : Int) < (vs.length : Int) + 1 := by omega
      have hi0 : (0 : Int) ≤ (i : Int) := by omega
      have hin : ((i : Int)).toNat = i := by omega
      obtain ⟨gs', os', ek, x0, -, -⟩ := it_cells (K3.up Fi) HX.out
      cases ek
      obtain ⟨gv, ov, rfl, y0⟩ := int_cell (V3.up Fi) hy
      obtain ⟨z, hz⟩ : ∃ z, (latT k x.k y).getD ⟨0, 0, 0⟩ = z := ⟨_, rfl⟩
      obtain ⟨b, hb⟩ : ∃ b, (latT k x.k y).isSome = b := ⟨_, rfl⟩
      obtain ⟨zq, hz2⟩ : ∃ z, (latT m x.k y).getD ⟨0, 0, 0⟩ = z := ⟨_, rfl⟩
      obtain ⟨b2, hb2⟩ : ∃ b, (latT m x.k y).isSome = b := ⟨_, rfl⟩
      have HA := fun (w : World) (F : Fr [] w3 w) => lat_parts k _ x.k y w hkll (K3.up F) z b hz hb
      have HB := fun (w : World) (F : Fr [] w3 w) => lat_parts m _ x.k y w hml2 (M3.up F) zq b2 hz2 hb2
      have HN := Lib.hid (show z = zq → b = b2 → SameTo k m x.k vm (i + 1) from fun e1 e2 j hj y' hy' => by
        by_cases hji : j = i
        · subst hji
          obtain rfl : y = y' := Option.some.inj (hy.symm.trans hy')
          exact lat_same (by rw [hz, hz2, e1]) (by rw [hb, hb2, e2])
        · exact HS.out j (by omega) y' hy')
      have HF := Lib.hid Fi
      clear hy hz hb hz2 hb2 Fi
      go_wp2_with fail
      refine wp_region_env (by kernel_rfl) [] (fun w20 F20 => ?_)
      refine env_pass [true, true, true, true, true, true, true, true, true, true, true, true, true, true, false, false, false] 3 (n := 101) rfl (by kernel_rfl) (by kernel_rfl) (by kernel_rfl) rfl rfl (fun _ _ d _ _ h => by cases d <;> exact h) F20 ?_
      apply Exists.intro
      refine ⟨fun wf Ff => ?_, ?_⟩
      · have k0 := fun (s : In wf) => In.cell (Ff.cell x0 (by simp)) s
        have l0 := fun (s : In wf) => In.cell (Ff.cell y0 (by simp)) s
        have hX := fun (s : In wf) => HA s.at_ (HF.out.trans (Ff.trans (In.fr s)))
        simp only [sel]
        repeat (go_big_quiet_step ((go_at_call 10; exact Calls.in_ (hX _))))
        exact wpQuiet_nil rfl
      refine env_one 14 (by kernel_rfl) rfl rfl (fun w21 F21 => ?_)
      go_wp2_with fail
      have B21 : Ob _ w21.heap.size 26 #[.int .i64 0, .int .i64 0, .int .i64 0] := Ob.new w21 _ _
      have G21 := (F20.trans F21).alloc (.cells #[.int .i64 0, .int .i64 0, .int .i64 0] 26)
      have hsz := (F20.trans F21).size
      generalize w21.alloc (.cells #[.int .i64 0, .int .i64 0, .int .i64 0] 26) = w22 at *
      generalize w21.heap.size = b21 at *
      refine nx_normal ⟨G21, ?_⟩
      refine env_one 15 (by kernel_rfl) rfl rfl (fun w23 F23 => ?_)
      have B23 := B21.up F23
      obtain ⟨z0, z1, z2⟩ := cells3 B23
      have fz0 := Ob.frozen B23 0
      have fz1 := Ob.frozen B23 1
      have fz2 := Ob.frozen B23 2
      go_wp2_with fail
      have B24 := set3 B23 (.int .i64 z.k) (.int .i64 z.v) (.int .i64 z.d)
      have G24 := fr3 (G21.trans F23) (.int .i64 z.k) (.int .i64 z.v) (.int .i64 z.d) hsz
      clear z0 z1 z2 fz0 fz1 fz2 B23 B21 F20 F21 F23 G21
      generalize ((w23.setCell ⟨b21, 0, none⟩ (.int .i64 z.k)).setCell ⟨b21, 1, none⟩ (.int .i64 z.v)).setCell ⟨b21, 2, none⟩ (.int .i64 z.d) = w24 at *
      refine nx_normal ⟨G24, ?_⟩
      refine env_one 16 (by kernel_rfl) rfl rfl (fun w25 F25 => ?_)
      go_wp2_with fail
      refine nx_normal ⟨G24.trans F25, ?_⟩
      refine env_done (by kernel_rfl) (fun w26 F26 => ?_)
      obtain ⟨p0, p1, p2⟩ := cells3 ((B24.up F25).up F26)
      have G26 := (G24.trans F25).trans F26
      clear B24 G24 F25 F26 hsz

      have HF := Lib.hid (HF.out.trans G26)
      replace x0 := G26.cell x0 (by simp)
      replace y0 := G26.cell y0 (by simp)
      clear G26
      rename World => wr
      go_wp2_with fail
      refine wp_region_env (by kernel_rfl) [] (fun w20 F20 => ?_)
      refine env_pass [true, true, true, true, true, true, true, true, true, true, true, true, true, true, false, false, false] 3 (n := 101) rfl (by kernel_rfl) (by kernel_rfl) (by kernel_rfl) rfl rfl (fun _ _ d _ _ h => by cases d <;> exact h) F20 ?_
      apply Exists.intro
      refine ⟨fun wf Ff => ?_, ?_⟩
      · have k0 := fun (s : In wf) => In.cell (Ff.cell x0 (by simp)) s
        have l0 := fun (s : In wf) => In.cell (Ff.cell y0 (by simp)) s
        have hX := fun (s : In wf) => HB s.at_ (HF.out.trans (Ff.trans (In.fr s)))
        simp only [sel]
        repeat (go_big_quiet_step ((go_at_call 10; exact Calls.in_ (hX _))))
        exact wpQuiet_nil rfl
      refine env_one 14 (by kernel_rfl) rfl rfl (fun w21 F21 => ?_)
      go_wp2_with fail
      have B21 : Ob _ w21.heap.size 26 #[.int .i64 0, .int .i64 0, .int .i64 0] := Ob.new w21 _ _
      have G21 := (F20.trans F21).alloc (.cells #[.int .i64 0, .int .i64 0, .int .i64 0] 26)
      have hsz := (F20.trans F21).size
      generalize w21.alloc (.cells #[.int .i64 0, .int .i64 0, .int .i64 0] 26) = w22 at *
      generalize w21.heap.size = b21 at *
      refine nx_normal ⟨G21, ?_⟩
      refine env_one 15 (by kernel_rfl) rfl rfl (fun w23 F23 => ?_)
      have B23 := B21.up F23
      obtain ⟨z0, z1, z2⟩ := cells3 B23
      have fz0 := Ob.frozen B23 0
      have fz1 := Ob.frozen B23 1
      have fz2 := Ob.frozen B23 2
      go_wp2_with fail
      have B24 := set3 B23 (.int .i64 zq.k) (.int .i64 zq.v) (.int .i64 zq.d)
      have G24 := fr3 (G21.trans F23) (.int .i64 zq.k) (.int .i64 zq.v) (.int .i64 zq.d) hsz
      clear z0 z1 z2 fz0 fz1 fz2 B23 B21 F20 F21 F23 G21
      generalize ((w23.setCell ⟨b21, 0, none⟩ (.int .i64 zq.k)).setCell ⟨b21, 1, none⟩ (.int .i64 zq.v)).setCell ⟨b21, 2, none⟩ (.int .i64 zq.d) = w24 at *
      refine nx_normal ⟨G24, ?_⟩
      refine env_one 16 (by kernel_rfl) rfl rfl (fun w25 F25 => ?_)
      go_wp2_with fail
      refine nx_normal ⟨G24.trans F25, ?_⟩
      refine env_done (by kernel_rfl) (fun w26 F26 => ?_)
      obtain ⟨q0, q1, q2⟩ := cells3 ((B24.up F25).up F26)
      have G26 := (G24.trans F25).trans F26
      clear B24 G24 F25 F26 hsz

      have hN := it_ne z zq
      have hG := itGuard
      replace p0 := G26.cell p0 (by simp)
      replace p1 := G26.cell p1 (by simp)
      replace p2 := G26.cell p2 (by simp)
      have HF := Lib.hid (HF.out.trans G26)
      clear G26 HA HB x0 y0
      by_cases hzz : z = zq
      · subst hzz
        rw [decide_eq_false (by simp)] at hN
        by_cases hbb : b = b2
        · subst hbb
          go_wp2_with fail
          exact ⟨⟨i + 1, by omega, by simp, HN.out rfl rfl, HF.out⟩, by simp; omega⟩
        · go_wp2_with fail
          all_goals first
            | (go_ret; exact ⟨by simp, F03.trans HF.out⟩)
            | (exfalso; exact hbb (by assumption))
            | (exfalso; exact hbb (Eq.symm (by assumption)))
            | (exfalso; simp_all; done)
      · rw [decide_eq_true hzz] at hN
        go_wp2_with fail
        go_ret
        exact ⟨by simp, F03.trans HF.out⟩
    · exfalso
      obtain ⟨j0, hj0'⟩ := List.mem_iff_getElem?.1 HV0.out
      have hj0l := (List.getElem?_eq_some_iff.1 hj0').1
      have := HS.out j0 (by omega) v0 hj0'
      rw [HLS.out.1] at this
      exact HLS.out.2 this.symm
theorem least_open {H : Type} {enc : TypeId × Value → H} {r r' : Reach} {b0 b1 : Nat} {v u : Value} {d d' : DataW H} {p p' : List MemPlace} (at8 : Int) (W : World) (hv : Value.okWide Try.prog W r b0 22 v) (h : DataW.Trod enc Try.prog W 0 (fun _ => true) true 22 v d p) (hv' : Value.okWide Try.prog W r' b1 23 u) (h' : DataW.Trod enc Try.prog W 0 (fun _ => true) true 23 u d' p') (ha : 0 ≤ at8 ∧ at8 ≤ 255) :
    Calls Try.prog 5 #[v, u, .int .u8 at8] W fun e w' => e = .returned (.bool true) ∧ Fr [] W w' := by
  obtain ⟨l, hl, hw⟩ := open_items8 hv h
  obtain ⟨vs, hu, -⟩ := open_ints8 hv' h'
  exact least_true l vs at8 v u W (fun x hx => (hw x hx).1) hl hu ha
end Go.Proofs.Yteahponbknljlaa.Kp
