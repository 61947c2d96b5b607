/- Layer 8's laws: KeepEnough. -/
import Derived.Test.YteahponbknljlaaLaws8b
namespace Go.Proofs.Yteahponbknljlaa.Kp
open Go.RowKit Go.Proofs.Yteahponbknljlaa.Ar Go.Proofs.Yteahponbknljlaa.Mx
set_option linter.unusedVariables false
set_option linter.unusedSimpArgs false
theorem it_ne (x y : It) (W : World) : (binOp .neq 26 (.agg #[.int .i64 x.k, .int .i64 x.v, .int .i64 x.d]) (.agg #[.int .i64 y.k, .int .i64 y.v, .int .i64 y.d])).run Try.prog W = .ok (.bool (decide (x ≠ y))) W := it_neq x y W
/-- What a latest is, taken apart. -/
theorem lat_parts (l : List It) (v : Value) (key version : Int) (w : World) (hl : l.length ≤ 1000) (h : Sq fT w v l) (x : It) (b : Bool) (hx : (latT l key version).getD ⟨0, 0, 0⟩ = x) (hb : (latT l key version).isSome = b) :
    Calls Try.prog 10 #[v, .int .i64 key, .int .i64 version] w fun e w' => e = .returned (.tuple #[.agg #[.int .i64 x.k, .int .i64 x.v, .int .i64 x.d], .bool b]) ∧ Fr [] w w' := by
  subst hx; subst hb; exact latest8_any l v key version w hl h
def topF (l : List It) : Int := l.foldl (fun t x => max t x.v) (-1)
theorem topF_step {l : List It} {i : Nat} {x : It} (hx : l[i]? = some x) : topF (l.take (i + 1)) = max (topF (l.take i)) x.v := by
  unfold topF; rw [List.take_add_one, hx, List.foldl_append]; rfl
theorem topF_le (l : List It) : ∀ x ∈ l, x.v ≤ topF l := by
  suffices h : ∀ (l : List It) (t : Int), t ≤ l.foldl (fun t x => max t x.v) t ∧ ∀ x ∈ l, x.v ≤ l.foldl (fun t x => max t x.v) t from (h l (-1)).2
  intro l
  induction l with
  | nil => intro t; exact ⟨Int.le_refl _, by simp⟩
  | cons y l ih =>
    intro t
    obtain ⟨h1, h2⟩ := ih (max t y.v)
    rw [List.foldl_cons]
    refine ⟨by omega, fun x hx => ?_⟩
    rcases List.mem_cons.1 hx with rfl | hx
    · omega
    · exact h2 x hx
def TopAt (w : World) (l : List It) (u6 u7 : Value) (wr : World) : Prop := ∃ i : Nat, i ≤ l.length ∧ u7 = .int .i64 (i : Nat) ∧ u6 = .int .i64 (topF (l.take i)) ∧ Fr [] w wr
set_option maxRecDepth 100000 in
set_option maxHeartbeats 6400000 in
theorem enough_true (l : List It) (vs : List Int) (v u : Value) (W : World) (hwf : ∀ x, x ∈ l → Wf x.k x.v) (h : Sq fT W v l) (hu : Sq fI W u vs) :
    Calls Try.prog 4 #[v, u] W fun e w' => e = .returned (.bool true) ∧ Fr [] W w' := by
  obtain ⟨al, cl, rfl, hcl, hml, -⟩ := id h
  obtain ⟨au, cu, rfl, hcu, hmu, -⟩ := id hu
  have HL := Lib.hid (And.intro h hu)
  clear h hu
  go_enter Try.func4, Try.ntmps4
  go_wp2_with fail
  refine (known_any _).mono ?_
  rintro e w0 ⟨rfl, F0⟩
  by_cases h40 : 40 < l.length
  · have h40z : (40 : Int) < (l.length : Int) := by omega
    go_wp2_with fail
    go_ret
    exact ⟨rfl, F0⟩
  have h40z : ¬ (40 : Int) < (l.length : Int) := by omega
  by_cases h12 : 12 < vs.length
  · have h12z : (12 : Int) < (vs.length : Int) := by omega
    go_wp2_with fail
    go_ret
    exact ⟨rfl, F0⟩
  have h12z : ¬ (12 : Int) < (vs.length : Int) := by omega
  have S0 := HL.out.1.up F0
  have U0 := HL.out.2.up F0
  have hll : l.length ≤ 1000 := by omega
  have hvl : vs.length ≤ 1000 := by omega
  have HW := Lib.hid hwf
  clear hwf
  go_wp2_with fail
  refine (keep8_any l vs _ _ w0 hll hvl HW.out S0 U0).mono ?_
  rintro e w1 ⟨⟨u1, rfl, r1⟩, F1⟩
  have K1 := Sq.own (f := fT) r1
  have S1 := S0.up F1
  have U1 := U0.up F1
  have F01 := F0.trans F1
  have hkl : (keepT l vs).length ≤ l.length := keepT_length l vs
  have HKL := Lib.hid (fun (k v : Int) (hv : v ∈ vs ∨ ∀ x ∈ l, x.v ≤ v) => keep_lat l (vs := vs) (k := k) hv)
  clear r1 F1 S0 U0 F0
  generalize hk : keepT l vs = k at *
  obtain ⟨ak, ck, rfl, hck, hmk, -⟩ := id K1
  clear hk
  go_wp2_with fail
  go_loopw [6, 7] (TopAt w1 l) (fun _ x _ => l.length - (match x with | .int _ z => z.toNat | _ => 0))
  case atStart => exact ⟨0, by omega, rfl, rfl, Fr.refl _ _⟩
  case round =>
    obtain ⟨i, hi, rfl, rfl, F⟩ := hrel
    by_cases hlt : i < l.length
    · obtain ⟨x, hx⟩ : ∃ x, l[i]? = some x := ⟨l[i], List.getElem?_eq_getElem hlt⟩
      have hltz : (i : Int) < (l.length : Int) := by omega
      have hi0 : (0 : Int) ≤ (i : Int) := by omega
      have hin : ((i : Int)).toNat = i := by omega
      have HS := Lib.hid (topF_step hx)
      obtain ⟨gs, os, rfl, x0, x1, x2⟩ := it_cells (S1.up F) hx
      have HF := Lib.hid F
      generalize topF (l.take i) = t at *
      clear hx F
      by_cases htx : t ≤ x.v
      · have hm : max t x.v = x.v := by omega
        rw [hm] at HS
        go_wp2_with fail
        all_goals first
          | (exfalso; omega)
          | (go_roundw
             case rel => exact ⟨i + 1, by omega, by simp, by rw [HS.out], HF.out⟩
             case measure => simp; omega)
      · have hm : max t x.v = t := by omega
        rw [hm] at HS
        go_wp2_with fail
        all_goals first
          | (exfalso; omega)
          | (go_roundw
             case rel => exact ⟨i + 1, by omega, by simp, by rw [HS.out], HF.out⟩
             case measure => simp; omega)
    · have hltz : ¬ (i : Int) < (l.length : Int) := by omega
      have hie : l.length ≤ i := by omega
      rw [List.take_of_length_le hie]
      have HT := Lib.hid (topF_le l)
      generalize topF l = top at *
      have K2 := K1.up F
      have S2 := S1.up F
      have U2 := U1.up F
      have F02 := F01.trans F
      clear K1 S1 U1 F01 F
      go_wp2_with (first
        | (at_builtin; refine wpList_appSq fI_lays rfl _ _ 23 rfl Try.underlying23 intI rfl (B := wr.heap.size) (.slice none 0 0) [] rfl ⟨rfl, .inl ⟨rfl, rfl⟩⟩ _ vs rfl U2 (by simp; omega) (by decide) (Nat.le_refl _) ?_; intro a2 c2 w2 r2 f2; rw [List.nil_append] at r2 ⊢
           have G2 := (Fr.refl [] wr).own f2 (by simp [Value.ownBlock])
           have E2 := G2.alloc (.cells #[.int .i64 top] 3)
           have B2 := Go.heap_alloc_new w2 (.cells #[.int .i64 top] 3)
           have r2' := row_keeps r2 ((Fr.refl [] w2).alloc (.cells #[.int .i64 top] 3))
           clear f2 r2)
        | (at_builtin; refine wpList_appSq fI_lays rfl _ _ 23 rfl Try.underlying23 intI rfl (B := wr.heap.size) _ vs rfl r2' _ [top] rfl (Sq.block B2 rfl rfl (Nat.le_refl _) (by simp [maxLen])) (by simp; omega) (by decide) E2.size ?_; intro a3 c3 w3 r3 f3))
      have G3 := E2.own f3 (row_base r2')
      have V3 := Sq.own (f := fI) r3
      have S3 := S2.up G3
      have K3 := K2.up G3
      have F03 := F02.trans G3
      have HV := Lib.hid (show ∀ z, z ∈ vs ++ [top] → z ∈ vs ∨ ∀ x ∈ l, x.v ≤ z from fun z hz => by
        rcases List.mem_append.1 hz with hz | hz
        · exact .inl hz
        · rw [List.mem_singleton.1 hz]; exact .inr HT.out)
      have hvml : (vs ++ [top]).length ≤ 1000 := by simp; omega
      clear r3 f3 r2' B2 E2 G2 G3 K2 S2 U2 F02
      have hv1 : (vs ++ [top]).length ≤ vs.length + 1 := by simp
      have hv2 : vs.length + 1 ≤ (vs ++ [top]).length := by simp
      generalize vs ++ [top] = vm at *
      obtain ⟨av, cv, hve, hcv, hmv, -⟩ := id V3
      obtain ⟨rfl, -, rfl⟩ := Value.slice.inj hve
      go_wp2_with fail
      go_loopw [9] (fun x wr => ∃ i : Nat, i ≤ l.length ∧ x = .int .i64 (i : Nat) ∧ Fr [] w3 wr) (fun x _ => l.length - (match x with | .int _ z => z.toNat | _ => 0))
      case atStart => exact ⟨0, by omega, rfl, Fr.refl _ _⟩
      case round =>
        obtain ⟨i, hi, rfl, Fi⟩ := hrel
        by_cases hlt : i < l.length
        · obtain ⟨x, hx⟩ : ∃ x, l[i]? = some x := ⟨l[i], List.getElem?_eq_getElem hlt⟩
          have hltz : (i : Int) < (l.length : Int) := by omega
          have hi0 : (0 : Int) ≤ (i : Int) := by omega
          have hin : ((i : Int)).toNat = i := by omega
          have HX := Lib.hid hx
          clear hx
          go_wp2_with fail
          go_loopw [10] (fun x wr => ∃ j : Nat, j ≤ vm.length ∧ x = .int .i64 (j : Nat) ∧ Fr [] w3 wr) (fun x _ => vm.length - (match x with | .int _ z => z.toNat | _ => 0))
          case atStart => exact ⟨0, by omega, rfl, Fi⟩
          case round =>
            obtain ⟨j, hj, rfl, Fj⟩ := hrel
            by_cases hjt : j < vm.length
            · obtain ⟨y, hy⟩ : ∃ y, vm[j]? = some y := ⟨vm[j], List.getElem?_eq_getElem hjt⟩
              have hjz : (j : Int) < (vm.length : Int) := by omega
              have hjz2 : (j : Int) < (vs.length : Int) + 1 := by omega
              have hj0 : (0 : Int) ≤ (j : Int) := by omega
              have hjn : ((j : Int)).toNat = j := by omega
              have hlat := HKL.out x.k y (HV.out y (List.mem_of_getElem? hy))
              obtain ⟨gs, os, rfl, x0, -, -⟩ := it_cells (S3.up Fj) HX.out
              obtain ⟨gv, ov, rfl, y0⟩ := int_cell (V3.up Fj) hy
              obtain ⟨z, hz⟩ : ∃ z, (latT l x.k y).getD ⟨0, 0, 0⟩ = z := ⟨_, rfl⟩
              obtain ⟨b, hb⟩ : ∃ b, (latT l x.k y).isSome = b := ⟨_, rfl⟩
              have HA := fun (w : World) (F : Fr [] w3 w) => lat_parts l _ x.k y w hll (S3.up F) z b hz hb
              have HB := fun (w : World) (F : Fr [] w3 w) => lat_parts k _ x.k y w (by omega) (K3.up F) z b (by rw [hlat]; exact hz) (by rw [hlat]; exact hb)
              have HF := Lib.hid Fj
              clear hy hlat hz hb Fj
              go_wp2_with fail
              refine wp_region_env (by kernel_rfl) [] (fun w20 F20 => ?_)
              refine env_pass [true, true, true, true, true, true, true, true, true, true, true, true, true, true, false, false, false] 3 (n := 99) rfl (by kernel_rfl) (by kernel_rfl) (by kernel_rfl) rfl rfl (fun _ _ d _ _ h => by cases d <;> exact h) F20 ?_
              apply Exists.intro
              refine ⟨fun wf Ff => ?_, ?_⟩
              · have k0 := fun (s : In wf) => In.cell (Ff.cell x0 (by simp)) s
                have l0 := fun (s : In wf) => In.cell (Ff.cell y0 (by simp)) s
                have hX := fun (s : In wf) => HA s.at_ (HF.out.trans (Ff.trans (In.fr s)))
                simp only [sel]
                repeat (go_big_quiet_step ((go_at_call 10; exact Calls.in_ (hX _))))
                exact wpQuiet_nil rfl
              refine env_one 14 (by kernel_rfl) rfl rfl (fun w21 F21 => ?_)
              go_wp2_with fail
              have B21 : Ob _ w21.heap.size 26 #[.int .i64 0, .int .i64 0, .int .i64 0] := Ob.new w21 _ _
              have G21 := (F20.trans F21).alloc (.cells #[.int .i64 0, .int .i64 0, .int .i64 0] 26)
              have hsz := (F20.trans F21).size
              generalize w21.alloc (.cells #[.int .i64 0, .int .i64 0, .int .i64 0] 26) = w22 at *
              generalize w21.heap.size = b21 at *
              refine nx_normal ⟨G21, ?_⟩
              refine env_one 15 (by kernel_rfl) rfl rfl (fun w23 F23 => ?_)
              have B23 := B21.up F23
              obtain ⟨z0, z1, z2⟩ := cells3 B23
              have fz0 := Ob.frozen B23 0
              have fz1 := Ob.frozen B23 1
              have fz2 := Ob.frozen B23 2
              go_wp2_with fail
              have B24 := set3 B23 (.int .i64 z.k) (.int .i64 z.v) (.int .i64 z.d)
              have G24 := fr3 (G21.trans F23) (.int .i64 z.k) (.int .i64 z.v) (.int .i64 z.d) hsz
              clear z0 z1 z2 fz0 fz1 fz2 B23 B21 F20 F21 F23 G21
              generalize ((w23.setCell ⟨b21, 0, none⟩ (.int .i64 z.k)).setCell ⟨b21, 1, none⟩ (.int .i64 z.v)).setCell ⟨b21, 2, none⟩ (.int .i64 z.d) = w24 at *
              refine nx_normal ⟨G24, ?_⟩
              refine env_one 16 (by kernel_rfl) rfl rfl (fun w25 F25 => ?_)
              go_wp2_with fail
              refine nx_normal ⟨G24.trans F25, ?_⟩
              refine env_done (by kernel_rfl) (fun w26 F26 => ?_)
              obtain ⟨p0, p1, p2⟩ := cells3 ((B24.up F25).up F26)
              have G26 := (G24.trans F25).trans F26
              clear B24 G24 F25 F26 hsz

              have HF := Lib.hid (HF.out.trans G26)
              replace x0 := G26.cell x0 (by simp)
              replace y0 := G26.cell y0 (by simp)
              clear G26
              rename World => wr
              go_wp2_with fail
              refine wp_region_env (by kernel_rfl) [] (fun w20 F20 => ?_)
              refine env_pass [true, true, true, true, true, true, true, true, true, true, true, true, true, true, false, false, false] 3 (n := 99) rfl (by kernel_rfl) (by kernel_rfl) (by kernel_rfl) rfl rfl (fun _ _ d _ _ h => by cases d <;> exact h) F20 ?_
              apply Exists.intro
              refine ⟨fun wf Ff => ?_, ?_⟩
              · have k0 := fun (s : In wf) => In.cell (Ff.cell x0 (by simp)) s
                have l0 := fun (s : In wf) => In.cell (Ff.cell y0 (by simp)) s
                have hX := fun (s : In wf) => HB s.at_ (HF.out.trans (Ff.trans (In.fr s)))
                simp only [sel]
                repeat (go_big_quiet_step ((go_at_call 10; exact Calls.in_ (hX _))))
                exact wpQuiet_nil rfl
              refine env_one 14 (by kernel_rfl) rfl rfl (fun w21 F21 => ?_)
              go_wp2_with fail
              have B21 : Ob _ w21.heap.size 26 #[.int .i64 0, .int .i64 0, .int .i64 0] := Ob.new w21 _ _
              have G21 := (F20.trans F21).alloc (.cells #[.int .i64 0, .int .i64 0, .int .i64 0] 26)
              have hsz := (F20.trans F21).size
              generalize w21.alloc (.cells #[.int .i64 0, .int .i64 0, .int .i64 0] 26) = w22 at *
              generalize w21.heap.size = b21 at *
              refine nx_normal ⟨G21, ?_⟩
              refine env_one 15 (by kernel_rfl) rfl rfl (fun w23 F23 => ?_)
              have B23 := B21.up F23
              obtain ⟨z0, z1, z2⟩ := cells3 B23
              have fz0 := Ob.frozen B23 0
              have fz1 := Ob.frozen B23 1
              have fz2 := Ob.frozen B23 2
              go_wp2_with fail
              have B24 := set3 B23 (.int .i64 z.k) (.int .i64 z.v) (.int .i64 z.d)
              have G24 := fr3 (G21.trans F23) (.int .i64 z.k) (.int .i64 z.v) (.int .i64 z.d) hsz
              clear z0 z1 z2 fz0 fz1 fz2 B23 B21 F20 F21 F23 G21
              generalize ((w23.setCell ⟨b21, 0, none⟩ (.int .i64 z.k)).setCell ⟨b21, 1, none⟩ (.int .i64 z.v)).setCell ⟨b21, 2, none⟩ (.int .i64 z.d) = w24 at *
              refine nx_normal ⟨G24, ?_⟩
              refine env_one 16 (by kernel_rfl) rfl rfl (fun w25 F25 => ?_)
              go_wp2_with fail
              refine nx_normal ⟨G24.trans F25, ?_⟩
              refine env_done (by kernel_rfl) (fun w26 F26 => ?_)
              obtain ⟨q0, q1, q2⟩ := cells3 ((B24.up F25).up F26)
              have G26 := (G24.trans F25).trans F26
              clear B24 G24 F25 F26 hsz

              have hN := fun W => (it_ne z z W).trans (by simp : _ = Result.ok (.bool false) W)
              have hG := itGuard
              replace p0 := G26.cell p0 (by simp)
              replace p1 := G26.cell p1 (by simp)
              replace p2 := G26.cell p2 (by simp)
              have HF := Lib.hid (HF.out.trans G26)
              clear G26 HA HB x0 y0
              go_wp2_with fail
              exact ⟨⟨j + 1, by omega, by simp, HF.out⟩, by simp; omega⟩
            · have hjz : ¬ (j : Int) < (vm.length : Int) := by omega
              have hjz2 : ¬ (j : Int) < (vs.length : Int) + 1 := by omega
              go_wp2_with fail
              go_roundw
              case rel => exact ⟨i + 1, by omega, by simp, Fj⟩
              case measure => simp; omega
        · have hltz : ¬ (i : Int) < (l.length : Int) := by omega
          have hlez : (k.length : Int) ≤ (l.length : Int) := by omega
          go_wp2_with fail
          go_ret
          exact ⟨by first | rfl | (simp; done) | (simp; omega), F03.trans Fi⟩
theorem enough_open {H : Type} {enc : TypeId × Value → H} {r r' : Reach} {b0 b1 : Nat} {v u : Value} {d d' : DataW H} {p p' : List MemPlace} (W : World) (hv : Value.okWide Try.prog W r b0 22 v) (h : DataW.Trod enc Try.prog W 0 (fun _ => true) true 22 v d p) (hv' : Value.okWide Try.prog W r' b1 23 u) (h' : DataW.Trod enc Try.prog W 0 (fun _ => true) true 23 u d' p') :
    Calls Try.prog 4 #[v, u] W fun e w' => e = .returned (.bool true) ∧ Fr [] W w' := by
  obtain ⟨l, hl, hw⟩ := open_items8 hv h
  obtain ⟨vs, hu, -⟩ := open_ints8 hv' h'
  exact enough_true l vs v u W (fun x hx => (hw x hx).1) hl hu
end Go.Proofs.Yteahponbknljlaa.Kp
