/- Layer 8's laws: KeepSorts. -/
import Derived.Test.YteahponbknljlaaLaws8b
namespace Go.Proofs.Yteahponbknljlaa.Kp
open Go.RowKit Go.Proofs.Yteahponbknljlaa.Ar Go.Proofs.Yteahponbknljlaa.Mx
set_option linter.unusedVariables false
set_option linter.unusedSimpArgs false
/-- How far the items are numbered. -/
def nuT (l : List It) (i : Nat) : List It := (num l).take i ++ l.drop i
theorem nuT_len {l : List It} {i : Nat} (h : i ≤ l.length) : (nuT l i).length = l.length := by unfold nuT; simp [num_length]; omega
theorem nuT_at {l : List It} {i : Nat} {x : It} (hx : l[i]? = some x) : (nuT l i)[i]? = some x := by
  have hi := (List.getElem?_eq_some_iff.1 hx).1
  unfold nuT
  have h1 : ((num l).take i).length = i := by simp [num_length]; omega
  rw [List.getElem?_append_right (by omega), h1, List.getElem?_drop]; simpa using hx
theorem nuT_take {l : List It} {i : Nat} (h : i ≤ l.length) : (nuT l i).take i = (num l).take i := by
  unfold nuT
  have h1 : ((num l).take i).length = i := by simp [num_length]; omega
  rw [List.take_append_of_le_length (by omega), List.take_take, Nat.min_self]
theorem nuT_drop {l : List It} {i : Nat} (h : i ≤ l.length) : (nuT l i).drop (i + 1) = l.drop (i + 1) := by
  unfold nuT
  have h1 : ((num l).take i).length = i := by simp [num_length]; omega
  rw [List.drop_append, h1, List.drop_drop]
  have : ((num l).take i).drop (i + 1) = [] := List.drop_eq_nil_of_le (by omega)
  rw [this, List.nil_append]; congr 1; omega
theorem nuT_step {l : List It} {i : Nat} {x : It} (hx : l[i]? = some x) : ((nuT l i).take i ++ [(⟨x.k, x.v, i⟩ : It)]) ++ (nuT l i).drop (i + 1) = nuT l (i + 1) := by
  have hi := (List.getElem?_eq_some_iff.1 hx).1
  rw [nuT_take (by omega), nuT_drop (by omega), num_step hx]; rfl
theorem sumd_bd (s : List It) (M : Int) (h : ∀ x ∈ s, 0 ≤ x.d ∧ x.d ≤ M) : 0 ≤ sumd s ∧ sumd s ≤ M * (s.length : Int) := by
  induction s with
  | nil => simp [sumd]
  | cons a s ih =>
    have h1 := h a (by simp)
    have h2 := ih (fun x hx => h x (by simp [hx]))
    have h3 : sumd (a :: s) = a.d + sumd s := by simp [sumd]
    have h4 : M * (((a :: s).length : Nat) : Int) = M + M * (s.length : Int) := by
      rw [List.length_cons, Int.natCast_add, Int.mul_add]; omega
    rw [h3, h4]; omega
def NumAt (w : World) (l : List It) (u0 u3 : Value) (wr : World) : Prop := ∃ i : Nat, i ≤ l.length ∧ u3 = .int .i64 (i : Nat) ∧ Sq fT wr u0 (nuT l i) ∧ Fr [] w wr
set_option maxRecDepth 1000000 in
set_option maxHeartbeats 6400000 in
theorem sorts_true (l : List It) (v : Value) (W : World) (h : Sq fT W v l) :
    Calls Try.prog 7 #[v] W fun e w' => e = .returned (.bool true) ∧ Fr [] W w' := by
  obtain ⟨al, cl, rfl, hcl, hml, -⟩ := id h
  have HL := Lib.hid h
  clear h
  go_enter Try.func7, Try.ntmps7
  go_wp2_with fail
  refine (known_any _).mono ?_
  rintro e w0 ⟨rfl, F0⟩
  by_cases h40 : 40 < l.length
  · have h40z : (40 : Int) < (l.length : Int) := by omega
    go_wp2_with fail
    go_ret
    exact ⟨rfl, F0⟩
  have h40z : ¬ (40 : Int) < (l.length : Int) := by omega
  have S0 := HL.out.up F0
  have hll : l.length ≤ 1000 := by omega
  have HSS := Lib.hid S0
  clear S0
  go_wp2_with fail
  go_loopw [0, 3] (NumAt w0 l) (fun _ x _ => l.length - (match x with | .int _ z => z.toNat | _ => 0))
  case atStart => exact ⟨0, by omega, rfl, by unfold nuT; simpa using HSS.out, Fr.refl _ _⟩
  case round =>
    obtain ⟨i, hi, rfl, S, F⟩ := hrel
    have hnl := nuT_len hi
    obtain ⟨ac, cc, rfl, hcc, hmc, -⟩ := id S
    by_cases hlt : i < l.length
    · obtain ⟨x, hx⟩ : ∃ x, l[i]? = some x := ⟨l[i], List.getElem?_eq_getElem hlt⟩
      have HN := Lib.hid (nuT_step hx)
      have hxn := nuT_at hx
      have hnl1 : (nuT l i).length ≤ l.length := by omega
      have hnl2 : l.length ≤ (nuT l i).length := by omega
      clear hnl
      generalize nuT l i = c at *
      have hltz : (i : Int) < (c.length : Int) := by omega
      have hi0 : (0 : Int) ≤ (i : Int) := by omega
      have hin : ((i : Int)).toNat = i := by omega
      have hile : (i : Int) ≤ (c.length : Int) := by omega
      have hj1 : (i : Int) + 1 ≤ (c.length : Int) := by omega
      have hjn : ((i : Int) + 1).toNat = i + 1 := by omega
      have hj0 : (0 : Int) ≤ (i : Int) + 1 := by omega
      have hicc : (i : Int) ≤ (cc : Int) := by omega
      obtain ⟨gs, os, rfl, x0, x1, x2⟩ := it_cells S hxn
      have ST := Sq.take fT_lays S i (by omega)
      have SD := tail8 S (i := i) (by omega) hcc hmc
      have HF := Lib.hid F
      clear hx hxn F S
      go_wp2_with fail
      refine wp_region_env (by kernel_rfl) [] (fun w2 F2 => ?_)
      refine env_pass [true, true, true, false, true, true, true, true, true, true, true, true, true, true, true, true, false, false, true, true, true, true, false, false] 5 (n := 136) rfl (by kernel_rfl) (by kernel_rfl) (by kernel_rfl) rfl rfl (fun _ _ d _ _ h => by cases d <;> exact h) F2 ?_
      apply Exists.intro
      refine ⟨fun wf Ff => ?_, ?_⟩
      · have k0 := fun (s : In wf) => In.cell (Ff.cell x0 (by simp)) s
        have k1 := fun (s : In wf) => In.cell (Ff.cell x1 (by simp)) s
        simp only [sel]
        repeat (go_big_quiet_step (fail))
        exact wpQuiet_nil rfl
      generalize hadr : (if cc = i + 1 then (some ⟨gs, os, none⟩ : Option Addr) else some ⟨gs, os + (i + 1) * 3, none⟩) = adr at SD ⊢
      clear hadr
      have hT1l : (c.take i).length ≤ 100 := by rw [List.length_take]; omega
      have hT2l : (c.drop (i + 1)).length ≤ 100 := by rw [List.length_drop]; omega
      generalize c.take i = T1 at *
      generalize c.drop (i + 1) = T2 at *
      have HST := Lib.hid ST
      have HSD := Lib.hid SD
      clear ST SD x0 x1 x2
      refine env_ready [3, 16] (by kernel_rfl) (by simp) (fun w10 F10 m hm o ho => ?_)
      have G := F2.trans F10
      clear F10 F2
      simp only [List.mem_cons, List.not_mem_nil, or_false] at hm
      rcases hm with rfl | rfl
      · skip
        obtain rfl := Option.some.inj ho
        have S1' := HST.out.up G
        go_wp2_with (at_builtin; refine wpList_appSq fT_lays rfl _ _ 22 rfl Try.underlying22 itI rfl (B := wr.heap.size) (.slice none 0 0) [] rfl ⟨rfl, .inl ⟨rfl, rfl⟩⟩ _ (T1) rfl S1' (by simp; omega) (by decide) G.size ?_; intro a21 c21 w21 r21 f21)
        rw [List.nil_append] at r21
        replace G := G.trans f21
        clear S1'
        clear f21
        refine nx_normal ⟨G, ?_⟩
        refine env_one 16 (by kernel_rfl) rfl rfl (fun w11 F11 => ?_)
        have r11 := row_keeps r21 F11
        replace G := G.trans F11
        clear r21 F11
        go_wp2_with fail
        have F12 := (Fr.refl [] w11).alloc (.cells #[.int .i64 x.k, .int .i64 x.v, .int .i64 (i : Nat)] 26)
        have B21 := Go.heap_alloc_new w11 (.cells #[.int .i64 x.k, .int .i64 x.v, .int .i64 (i : Nat)] 26)
        have r21 := row_keeps r11 F12
        replace G := G.trans F12
        clear r11 F12 ho
        refine nx_normal ⟨G, ?_⟩
        refine env_one 17 (by kernel_rfl) rfl rfl (fun w13 F13 => ?_)
        have r22 := row_keeps r21 F13
        have B22 := F13.heap B21 (by simp)
        replace G := G.trans F13
        clear r21 B21 F13
        go_wp2_with (at_builtin; refine wpList_appSq fT_lays rfl _ _ 22 rfl Try.underlying22 itI rfl (B := wr.heap.size) _ (T1) rfl r22 _ [(⟨x.k, x.v, (i : Int)⟩ : It)] rfl (Sq.block B22 rfl rfl (Nat.le_refl _) (by simp [maxLen])) (by simp; omega) (by decide) G.size ?_; intro a23 c23 w23 r23 f23; generalize hT3 : T1 ++ [(⟨x.k, x.v, (i : Int)⟩ : It)] = T3 at r23 ⊢)
        replace G := G.own f23 (row_base r22)
        clear f23 r22 B22
        refine nx_normal ⟨G, ?_⟩
        refine env_one 22 (by kernel_rfl) rfl rfl (fun w14 F14 => ?_)
        have r24 := row_keeps r23 F14
        replace G := G.trans F14
        clear r23 F14
        have S2' := HSD.out.up G
        have h3l : T3.length ≤ 1000 := by rw [← hT3, List.length_append]; simp; omega
        have h2l : T2.length ≤ 1000 := by omega
        go_wp2_with (at_builtin; refine wpList_appSq fT_lays rfl _ _ 22 rfl Try.underlying22 itI rfl (B := wr.heap.size) _ T3 rfl r24 _ T2 rfl S2' (by omega) (by decide) G.size ?_; intro a25 c25 w25 r25 f25; generalize hT4 : T3 ++ T2 = T4 at r25 ⊢)
        replace G := G.own f25 (row_base r24)
        clear f25 r24 S2'
        refine nx_normal ⟨G, ?_⟩
        refine env_one 23 (by kernel_rfl) rfl rfl (fun w15 F15 => ?_)
        have r26 := row_keeps r25 F15
        replace G := G.trans F15
        clear r25 F15
        go_wp2
        refine nx_normal ⟨G, ?_⟩
        refine env_done (by kernel_rfl) (fun w16 F16 => ?_)
        have r27 := row_keeps r26 F16
        replace G := G.trans F16
        clear r26 F16
        have e26 : T4 = nuT l (i + 1) := by rw [← hT4, ← hT3]; exact HN.out
        have SQ : Sq fT w16 (.slice a25 T4.length c25) (nuT l (i + 1)) := by
          have := Sq.own (f := fT) r27
          rw [← e26]; exact this
        have HG := Lib.hid (HF.out.trans G)
        have HQ := Lib.hid SQ
        clear r27 SQ G e26 hT4 hT3 h3l h2l
        go_wp2
        exact ⟨⟨i + 1, by omega, by simp, HQ.out, HG.out⟩, by simp; omega⟩

      · skip
        obtain rfl := Option.some.inj ho
        go_wp2_with fail
        have F12 := (Fr.refl [] w10).alloc (.cells #[.int .i64 x.k, .int .i64 x.v, .int .i64 (i : Nat)] 26)
        have B20 := Go.heap_alloc_new w10 (.cells #[.int .i64 x.k, .int .i64 x.v, .int .i64 (i : Nat)] 26)
        replace G := G.trans F12
        clear F12 ho
        generalize hw12 : World.alloc w10 _ = w12 at *
        generalize hb10 : w10.heap.size = b10 at *
        clear hw12 hb10
        refine nx_normal ⟨G, ?_⟩
        refine env_one 3 (by kernel_rfl) rfl rfl (fun w11 F11 => ?_)
        have B19 := F11.heap B20 (by simp)
        replace G := G.trans F11
        clear B20 F11
        have S1' := HST.out.up G
        go_wp2_with (at_builtin; refine wpList_appSq fT_lays rfl _ _ 22 rfl Try.underlying22 itI rfl (B := wr.heap.size) (.slice none 0 0) [] rfl ⟨rfl, .inl ⟨rfl, rfl⟩⟩ _ (T1) rfl S1' (by simp; omega) (by decide) G.size ?_; intro a21 c21 w21 r21 f21)
        rw [List.nil_append] at r21
        replace G := G.trans f21
        clear S1'
        have B21 := f21.heap B19 (by simp [Value.ownBlock])
        clear f21 B19
        refine nx_normal ⟨G, ?_⟩
        refine env_one 17 (by kernel_rfl) rfl rfl (fun w13 F13 => ?_)
        have r22 := row_keeps r21 F13
        have B22 := F13.heap B21 (by simp)
        replace G := G.trans F13
        clear r21 B21 F13
        go_wp2_with (at_builtin; refine wpList_appSq fT_lays rfl _ _ 22 rfl Try.underlying22 itI rfl (B := wr.heap.size) _ (T1) rfl r22 _ [(⟨x.k, x.v, (i : Int)⟩ : It)] rfl (Sq.block B22 rfl rfl (Nat.le_refl _) (by simp [maxLen])) (by simp; omega) (by decide) G.size ?_; intro a23 c23 w23 r23 f23; generalize hT3 : T1 ++ [(⟨x.k, x.v, (i : Int)⟩ : It)] = T3 at r23 ⊢)
        replace G := G.own f23 (row_base r22)
        clear f23 r22 B22
        refine nx_normal ⟨G, ?_⟩
        refine env_one 22 (by kernel_rfl) rfl rfl (fun w14 F14 => ?_)
        have r24 := row_keeps r23 F14
        replace G := G.trans F14
        clear r23 F14
        have S2' := HSD.out.up G
        have h3l : T3.length ≤ 1000 := by rw [← hT3, List.length_append]; simp; omega
        have h2l : T2.length ≤ 1000 := by omega
        go_wp2_with (at_builtin; refine wpList_appSq fT_lays rfl _ _ 22 rfl Try.underlying22 itI rfl (B := wr.heap.size) _ T3 rfl r24 _ T2 rfl S2' (by omega) (by decide) G.size ?_; intro a25 c25 w25 r25 f25; generalize hT4 : T3 ++ T2 = T4 at r25 ⊢)
        replace G := G.own f25 (row_base r24)
        clear f25 r24 S2'
        refine nx_normal ⟨G, ?_⟩
        refine env_one 23 (by kernel_rfl) rfl rfl (fun w15 F15 => ?_)
        have r26 := row_keeps r25 F15
        replace G := G.trans F15
        clear r25 F15
        go_wp2
        refine nx_normal ⟨G, ?_⟩
        refine env_done (by kernel_rfl) (fun w16 F16 => ?_)
        have r27 := row_keeps r26 F16
        replace G := G.trans F16
        clear r26 F16
        have e26 : T4 = nuT l (i + 1) := by rw [← hT4, ← hT3]; exact HN.out
        have SQ : Sq fT w16 (.slice a25 T4.length c25) (nuT l (i + 1)) := by
          have := Sq.own (f := fT) r27
          rw [← e26]; exact this
        have HG := Lib.hid (HF.out.trans G)
        have HQ := Lib.hid SQ
        clear r27 SQ G e26 hT4 hT3 h3l h2l
        go_wp2
        exact ⟨⟨i + 1, by omega, by simp, HQ.out, HG.out⟩, by simp; omega⟩

    · have hie : l.length ≤ i := by omega
      have hil : i = l.length := by omega
      have hnum : nuT l i = num l := by unfold nuT; rw [List.take_of_length_le (by rw [num_length]; omega), List.drop_eq_nil_of_le (by omega), List.append_nil]
      have hcz : ¬ (i : Int) < ((nuT l i).length : Int) := by omega
      have F9 := F0.trans F
      clear F hil
      rw [hnum] at S hcz hnl ⊢
      clear hnum
      have hml : (num l).length = l.length := num_length l
      have HSRT := Lib.hid (And.intro (sortT_srt (num l)) (fun (i : Nat) (a b : It) (ha : (sortT (num l))[i]? = some a) (hb : (sortT (num l))[i + 1]? = some b) => num_next ha hb))
      have HSUM := Lib.hid (num_sum l)
      have HD := Lib.hid (show ∀ x ∈ sortT (num l), 0 ≤ x.d ∧ x.d ≤ 40 from fun x hx => by
        obtain ⟨j, hj⟩ := List.mem_iff_getElem?.1 (mem_sortT.1 hx)
        have hjl := (List.getElem?_eq_some_iff.1 hj).1
        rw [num_length] at hjl
        rw [num_at (List.getElem?_eq_getElem hjl)] at hj
        obtain rfl := Option.some.inj hj
        simp; omega)
      have HX := sort8_any (num l) _ wr (by omega) S
      rw [hml] at HX S
      have HML := Lib.hid hml
      clear hml
      go_wp2_with fail
      refine HX.mono ?_
      rintro e w9 ⟨⟨u9, rfl, r9⟩, F10⟩
      have T9 := Sq.own (f := fT) r9
      have S9 := S.up F10
      have F09 := F9.trans F10
      have hsl : (sortT (num l)).length = l.length := by rw [sortT_length, num_length]
      have hsl1 : (sortT (num l)).length ≤ l.length := by omega
      have hsl2 : l.length ≤ (sortT (num l)).length := by omega
      clear r9 F10 F9 S hsl
      generalize hst : sortT (num l) = s at *
      have HST := Lib.hid hst
      clear hst
      obtain ⟨as_, cs, rfl, hcs, hms, -⟩ := id T9
      go_wp2_with fail
      go_loopw [5] (fun x wr => ∃ i : Nat, 1 ≤ i ∧ i ≤ s.length + 1 ∧ x = .int .i64 (i : Nat) ∧ Fr [] w9 wr) (fun x _ => s.length + 1 - (match x with | .int _ z => z.toNat | _ => 0))
      case atStart => exact ⟨1, by omega, by omega, rfl, Fr.refl _ _⟩
      case round =>
        obtain ⟨i, hi1, hi, rfl, Fi⟩ := hrel
        by_cases hlt : i < s.length
        · obtain ⟨m, rfl⟩ : ∃ m, i = m + 1 := ⟨i - 1, by omega⟩
          obtain ⟨a, ha⟩ : ∃ a, s[m]? = some a := ⟨s[m], List.getElem?_eq_getElem (by omega)⟩
          obtain ⟨b, hb⟩ : ∃ b, s[m + 1]? = some b := ⟨s[m + 1], List.getElem?_eq_getElem hlt⟩
          have hn := HSRT.out.2 m a b ha hb
          have hltz : (m : Int) + 1 < (s.length : Int) := by omega
          have hm0 : (0 : Int) ≤ (m : Int) := by omega
          have hmn : ((m : Int)).toNat = m := by omega
          have hml2 : (m : Int) < (s.length : Int) := by omega
          have hmw : (m : Int) + 1 - 1 = (m : Int) := by omega
          have hm1 : ((m : Int) + 1).toNat = m + 1 := by omega
          have hm2 : (0 : Int) ≤ (m : Int) + 1 := by omega
          obtain ⟨gs, os, rfl, x0, x1, x2⟩ := it_cells (T9.up Fi) ha
          obtain ⟨gs2, os2, e2, y0, y1, y2⟩ := it_cells (T9.up Fi) hb
          cases e2
          have HF := Lib.hid Fi
          clear ha hb Fi
          go_wp2_with fail
          refine wp_region_env (by kernel_rfl) [] (fun w20 F20 => ?_)
          refine env_pass [true, true, true, true, true, true, true, true, true, false, false, false, false] 4 (n := 136) rfl (by kernel_rfl) (by kernel_rfl) (by kernel_rfl) rfl rfl (fun _ _ d _ _ h => by cases d <;> exact h) F20 ?_
          apply Exists.intro
          refine ⟨fun wf Ff => ?_, ?_⟩
          · have k0 := fun (s : In wf) => In.cell (Ff.cell x0 (by simp)) s
            have k1 := fun (s : In wf) => In.cell (Ff.cell x1 (by simp)) s
            have k2 := fun (s : In wf) => In.cell (Ff.cell x2 (by simp)) s
            have l0 := fun (s : In wf) => In.cell (Ff.cell y0 (by simp)) s
            have l1 := fun (s : In wf) => In.cell (Ff.cell y1 (by simp)) s
            have l2 := fun (s : In wf) => In.cell (Ff.cell y2 (by simp)) s
            simp only [sel]
            repeat (go_big_quiet_step (fail))
            exact wpQuiet_nil rfl
          clear x0 x1 x2 y0 y1 y2
          refine env_ready [9, 10] (by kernel_rfl) (by simp) (fun w30 F30 m' hm o ho => ?_)
          have G := F20.trans F30
          clear F30 F20
          simp only [List.mem_cons, List.not_mem_nil, or_false] at hm
          rcases hm with rfl | rfl
          · skip
            obtain rfl := Option.some.inj ho
            go_wp2_with fail
            have hs9 := G.size
            have B9 : Ob _ w30.heap.size 26 #[.int .i64 0, .int .i64 0, .int .i64 0] := Ob.new w30 _ _
            replace G := G.alloc (.cells #[.int .i64 0, .int .i64 0, .int .i64 0] 26)
            have hlt9 := B9.lt
            clear ho
            generalize hw31 : World.alloc w30 _ = w31 at *
            generalize hb31 : w30.heap.size = ba at *
            clear hw31 hb31
            refine nx_normal ⟨G, ?_⟩
            refine env_one 10 (by kernel_rfl) rfl rfl (fun w32 F32 => ?_)
            replace B9 := B9.up F32
            replace G := G.trans F32
            have hlt2 := B9.lt
            clear F32
            go_wp2_with fail
            have hs10 := G.size
            have B10 : Ob _ w32.heap.size 26 #[.int .i64 0, .int .i64 0, .int .i64 0] := Ob.new w32 _ _
            replace B9 := B9.alloc (.cells #[.int .i64 0, .int .i64 0, .int .i64 0] 26)
            replace G := G.alloc (.cells #[.int .i64 0, .int .i64 0, .int .i64 0] 26)
            generalize hw33 : World.alloc w32 _ = w33 at *
            generalize hb33 : w32.heap.size = bb at *
            clear hw33 hb33
            have hab : ba ≠ bb := by omega
            clear hlt9 hlt2
            refine nx_normal ⟨G, ?_⟩
            refine env_one 11 (by kernel_rfl) rfl rfl (fun w34 F34 => ?_)
            replace B9 := B9.up F34
            replace B10 := B10.up F34
            replace G := G.trans F34
            clear F34
            obtain ⟨p0, p1, p2⟩ := cells3 B9
            have fp0 := Ob.frozen B9 0
            have fp1 := Ob.frozen B9 1
            have fp2 := Ob.frozen B9 2
            go_wp2_with fail
            replace B10 := ((B10.other hab.symm (.int .i64 a.k) (i := 0)).other hab.symm (.int .i64 a.v) (i := 1)).other hab.symm (.int .i64 a.d) (i := 2)
            replace B9 := set3 B9 (.int .i64 a.k) (.int .i64 a.v) (.int .i64 a.d)
            replace G := fr3 G (.int .i64 a.k) (.int .i64 a.v) (.int .i64 a.d) hs9
            clear p0 p1 p2 fp0 fp1 fp2
            generalize ((w34.setCell ⟨ba, 0, none⟩ (.int .i64 a.k)).setCell ⟨ba, 1, none⟩ (.int .i64 a.v)).setCell ⟨ba, 2, none⟩ (.int .i64 a.d) = w35 at *
            refine nx_normal ⟨G, ?_⟩
            refine env_one 12 (by kernel_rfl) rfl rfl (fun w36 F36 => ?_)
            replace B9 := B9.up F36
            replace B10 := B10.up F36
            replace G := G.trans F36
            clear F36
            obtain ⟨p0, p1, p2⟩ := cells3 B10
            have fp0 := Ob.frozen B10 0
            have fp1 := Ob.frozen B10 1
            have fp2 := Ob.frozen B10 2
            go_wp2_with fail
            replace B9 := ((B9.other hab (.int .i64 b.k) (i := 0)).other hab (.int .i64 b.v) (i := 1)).other hab (.int .i64 b.d) (i := 2)
            replace B10 := set3 B10 (.int .i64 b.k) (.int .i64 b.v) (.int .i64 b.d)
            replace G := fr3 G (.int .i64 b.k) (.int .i64 b.v) (.int .i64 b.d) hs10
            clear p0 p1 p2 fp0 fp1 fp2
            generalize ((w36.setCell ⟨bb, 0, none⟩ (.int .i64 b.k)).setCell ⟨bb, 1, none⟩ (.int .i64 b.v)).setCell ⟨bb, 2, none⟩ (.int .i64 b.d) = w37 at *
            refine nx_normal ⟨G, ?_⟩
            refine env_done (by kernel_rfl) (fun w38 F38 => ?_)
            obtain ⟨p0, p1, p2⟩ := cells3 (B9.up F38)
            obtain ⟨q0, q1, q2⟩ := cells3 (B10.up F38)
            have HG := Lib.hid (HF.out.trans (G.trans F38))
            clear B9 B10 G F38 hs9 hs10 hab
            rcases hn with hn | ⟨hn1, hn | ⟨hn2, hn⟩⟩
            · have h1 : (decide (b.k < a.k)) = false := decide_eq_false (by omega)
              have h2 : (a.k == b.k) = false := by simp; omega
              clear hn
              go_wp2_with fail
              exact ⟨⟨m + 1 + 1, by omega, by omega, by simp, HG.out⟩, by simp; omega⟩
            · have h1 : (decide (b.k < a.k)) = false := decide_eq_false (by omega)
              have h2 : (a.k == b.k) = true := by simp; omega
              have h3 : (decide (b.v < a.v)) = false := decide_eq_false (by omega)
              have h4 : (a.v == b.v) = false := by simp; omega
              clear hn hn1
              go_wp2_with fail
              exact ⟨⟨m + 1 + 1, by omega, by omega, by simp, HG.out⟩, by simp; omega⟩
            · have h1 : (decide (b.k < a.k)) = false := decide_eq_false (by omega)
              have h2 : (a.k == b.k) = true := by simp; omega
              have h3 : (decide (b.v < a.v)) = false := decide_eq_false (by omega)
              have h4 : (a.v == b.v) = true := by simp; omega
              have h5 : (decide (b.d ≤ a.d)) = false := decide_eq_false (by omega)
              clear hn hn1 hn2
              go_wp2_with fail
              exact ⟨⟨m + 1 + 1, by omega, by omega, by simp, HG.out⟩, by simp; omega⟩

          · skip
            obtain rfl := Option.some.inj ho
            go_wp2_with fail
            have hs10 := G.size
            have B10 : Ob _ w30.heap.size 26 #[.int .i64 0, .int .i64 0, .int .i64 0] := Ob.new w30 _ _
            replace G := G.alloc (.cells #[.int .i64 0, .int .i64 0, .int .i64 0] 26)
            have hlt10 := B10.lt
            clear ho
            generalize hw31 : World.alloc w30 _ = w31 at *
            generalize hb31 : w30.heap.size = bb at *
            clear hw31 hb31
            refine nx_normal ⟨G, ?_⟩
            refine env_one 9 (by kernel_rfl) rfl rfl (fun w32 F32 => ?_)
            replace B10 := B10.up F32
            replace G := G.trans F32
            have hlt2 := B10.lt
            clear F32
            go_wp2_with fail
            have hs9 := G.size
            have B9 : Ob _ w32.heap.size 26 #[.int .i64 0, .int .i64 0, .int .i64 0] := Ob.new w32 _ _
            replace B10 := B10.alloc (.cells #[.int .i64 0, .int .i64 0, .int .i64 0] 26)
            replace G := G.alloc (.cells #[.int .i64 0, .int .i64 0, .int .i64 0] 26)
            generalize hw33 : World.alloc w32 _ = w33 at *
            generalize hb33 : w32.heap.size = ba at *
            clear hw33 hb33
            have hab : ba ≠ bb := by omega
            clear hlt10 hlt2
            refine nx_normal ⟨G, ?_⟩
            refine env_one 11 (by kernel_rfl) rfl rfl (fun w34 F34 => ?_)
            replace B9 := B9.up F34
            replace B10 := B10.up F34
            replace G := G.trans F34
            clear F34
            obtain ⟨p0, p1, p2⟩ := cells3 B9
            have fp0 := Ob.frozen B9 0
            have fp1 := Ob.frozen B9 1
            have fp2 := Ob.frozen B9 2
            go_wp2_with fail
            replace B10 := ((B10.other hab.symm (.int .i64 a.k) (i := 0)).other hab.symm (.int .i64 a.v) (i := 1)).other hab.symm (.int .i64 a.d) (i := 2)
            replace B9 := set3 B9 (.int .i64 a.k) (.int .i64 a.v) (.int .i64 a.d)
            replace G := fr3 G (.int .i64 a.k) (.int .i64 a.v) (.int .i64 a.d) hs9
            clear p0 p1 p2 fp0 fp1 fp2
            generalize ((w34.setCell ⟨ba, 0, none⟩ (.int .i64 a.k)).setCell ⟨ba, 1, none⟩ (.int .i64 a.v)).setCell ⟨ba, 2, none⟩ (.int .i64 a.d) = w35 at *
            refine nx_normal ⟨G, ?_⟩
            refine env_one 12 (by kernel_rfl) rfl rfl (fun w36 F36 => ?_)
            replace B9 := B9.up F36
            replace B10 := B10.up F36
            replace G := G.trans F36
            clear F36
            obtain ⟨p0, p1, p2⟩ := cells3 B10
            have fp0 := Ob.frozen B10 0
            have fp1 := Ob.frozen B10 1
            have fp2 := Ob.frozen B10 2
            go_wp2_with fail
            replace B9 := ((B9.other hab (.int .i64 b.k) (i := 0)).other hab (.int .i64 b.v) (i := 1)).other hab (.int .i64 b.d) (i := 2)
            replace B10 := set3 B10 (.int .i64 b.k) (.int .i64 b.v) (.int .i64 b.d)
            replace G := fr3 G (.int .i64 b.k) (.int .i64 b.v) (.int .i64 b.d) hs10
            clear p0 p1 p2 fp0 fp1 fp2
            generalize ((w36.setCell ⟨bb, 0, none⟩ (.int .i64 b.k)).setCell ⟨bb, 1, none⟩ (.int .i64 b.v)).setCell ⟨bb, 2, none⟩ (.int .i64 b.d) = w37 at *
            refine nx_normal ⟨G, ?_⟩
            refine env_done (by kernel_rfl) (fun w38 F38 => ?_)
            obtain ⟨p0, p1, p2⟩ := cells3 (B9.up F38)
            obtain ⟨q0, q1, q2⟩ := cells3 (B10.up F38)
            have HG := Lib.hid (HF.out.trans (G.trans F38))
            clear B9 B10 G F38 hs9 hs10 hab
            rcases hn with hn | ⟨hn1, hn | ⟨hn2, hn⟩⟩
            · have h1 : (decide (b.k < a.k)) = false := decide_eq_false (by omega)
              have h2 : (a.k == b.k) = false := by simp; omega
              clear hn
              go_wp2_with fail
              exact ⟨⟨m + 1 + 1, by omega, by omega, by simp, HG.out⟩, by simp; omega⟩
            · have h1 : (decide (b.k < a.k)) = false := decide_eq_false (by omega)
              have h2 : (a.k == b.k) = true := by simp; omega
              have h3 : (decide (b.v < a.v)) = false := decide_eq_false (by omega)
              have h4 : (a.v == b.v) = false := by simp; omega
              clear hn hn1
              go_wp2_with fail
              exact ⟨⟨m + 1 + 1, by omega, by omega, by simp, HG.out⟩, by simp; omega⟩
            · have h1 : (decide (b.k < a.k)) = false := decide_eq_false (by omega)
              have h2 : (a.k == b.k) = true := by simp; omega
              have h3 : (decide (b.v < a.v)) = false := decide_eq_false (by omega)
              have h4 : (a.v == b.v) = true := by simp; omega
              have h5 : (decide (b.d ≤ a.d)) = false := decide_eq_false (by omega)
              clear hn hn1 hn2
              go_wp2_with fail
              exact ⟨⟨m + 1 + 1, by omega, by omega, by simp, HG.out⟩, by simp; omega⟩

        · have hie2 : s.length ≤ i := by omega
          have hcz2 : ¬ (i : Int) < (s.length : Int) := by omega
          have F19 := F09.trans Fi
          have T19 := T9.up Fi
          clear Fi
          go_wp2_with fail
          go_loopw [8, 9] (fun x y wr2 => ∃ i : Nat, i ≤ s.length ∧ y = .int .i64 (i : Nat) ∧ x = .int .i64 (sumd (s.take i)) ∧ Fr [] wr wr2) (fun _ y _ => s.length - (match y with | .int _ z => z.toNat | _ => 0))
          case atStart => exact ⟨0, by omega, rfl, rfl, Fr.refl _ _⟩
          case round =>
            obtain ⟨i, hi, rfl, rfl, Fi⟩ := hrel
            have hb := sumd_bd (s.take i) 40 (fun x hx => HD.out x (List.mem_of_mem_take hx))
            have hbl : (s.take i).length = i := by rw [List.length_take]; omega
            rw [hbl] at hb
            obtain ⟨hb1, hb2⟩ := hb
            clear hbl
            by_cases hlt : i < s.length
            · obtain ⟨a, ha⟩ : ∃ a, s[i]? = some a := ⟨s[i], List.getElem?_eq_getElem hlt⟩
              obtain ⟨hd1, hd2⟩ := HD.out a (List.mem_iff_getElem?.2 ⟨i, ha⟩)
              have hst := Lib.hid (sumd_take ha)
              obtain ⟨gs, os, rfl, x0, x1, x2⟩ := it_cells (T19.up Fi) ha
              generalize sumd (s.take i) = A at *
              have hb3 : A ≤ 1600 := by omega
              have hltz : (i : Int) < (s.length : Int) := by omega
              have hi0 : (0 : Int) ≤ (i : Int) := by omega
              have hin : ((i : Int)).toNat = i := by omega
              have HF := Lib.hid Fi
              clear Fi hb2
              go_wp2_with fail
              exact ⟨⟨i + 1, by omega, by simp, by rw [hst.out], HF.out⟩, by simp; omega⟩
            · have hie3 : s.length ≤ i := by omega
              have hil3 : s.take i = s := List.take_of_length_le hie3
              have hcz3 : ¬ (i : Int) < (s.length : Int) := by omega
              rw [hil3] at hb1 hb2 ⊢
              have hb3 : sumd s ≤ 1600 := by omega
              have hs2 := HSUM.out
              generalize sumd s = A at *
              have hP0 : 0 ≤ (l.length : Int) * ((l.length : Int) - 1) := by omega
              have hP1 : (l.length : Int) * ((l.length : Int) - 1) ≤ 3200 := by omega
              have hP2 : ((l.length : Int) * ((l.length : Int) - 1)) / 2 = A := by rw [← hs2]; omega
              have HG := Lib.hid (F19.trans Fi)
              have T29 := T19.up Fi
              have HP := Lib.hid hP2
              clear Fi F19 T19 T9 hs2 hb1 hb2 hil3 hP2
              have hsA := HSRT.out.1
              have hss := sortT_of hsA
              clear hsA
              have hs40 : s.length ≤ 40 := by omega
              go_wp2_with fail
              · refine (sort8_any s _ wr hs40 T29).mono ?_
                rintro e w40 ⟨⟨u40, rfl, r40⟩, F40⟩
                have Q40 := Sq.own (f := fT) r40
                rw [hss] at Q40
                have Q41 := T29.up F40
                have F41 := HG.out.trans F40
                clear r40 F40 T29
                have hsl : s.length ≤ 1000000 := by omega
                have H := sameItems_any s s u40 _ w40 hsl hsl Q40 Q41
                rw [decide_eq_true rfl] at H
                have HG2 := Lib.hid F41
                clear F41 HG Q40 Q41 hss
                go_wp2_with fail
                refine H.mono ?_
                rintro e w41 ⟨rfl, F42⟩
                clear H
                have HG3 := Lib.hid (HG2.out.trans F42)
                clear F42 HG2
                go_wp2_with fail
                go_ret
                exact ⟨by simp, HG3.out⟩
              · exfalso; have := HP.out; omega
theorem sorts_open {H : Type} {enc : TypeId × Value → H} {r : Reach} {b0 : Nat} {v : Value} {d : DataW H} {p : List MemPlace} (W : World) (hv : Value.okWide Try.prog W r b0 22 v) (h : DataW.Trod enc Try.prog W 0 (fun _ => true) true 22 v d p) :
    Calls Try.prog 7 #[v] W fun e w' => e = .returned (.bool true) ∧ Fr [] W w' := by
  obtain ⟨l, hl, hw⟩ := open_items8 hv h
  exact sorts_true l v W hl
end Go.Proofs.Yteahponbknljlaa.Kp
