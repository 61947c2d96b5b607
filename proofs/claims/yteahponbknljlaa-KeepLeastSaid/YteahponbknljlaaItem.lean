/- Items, as rows; the reference's order of them (Sort). -/
import Derived.Test.YteahponbknljlaaSeq
import Derived.Test.YteahponbknljlaaEnv
namespace Go.Proofs.Yteahponbknljlaa.Mx
open Go.RowKit Go.Proofs.Yteahponbknljlaa.Ar
set_option linter.unusedVariables false
set_option linter.unusedSimpArgs false
structure It where
  k : Int
  v : Int
  d : Int
deriving DecidableEq
def fT (x : It) : List Value := [.int .i64 x.k, .int .i64 x.v, .int .i64 x.d]
theorem fT_lays : Lays fT 3 := ⟨fun _ => rfl, fun x u hu => by simp [fT] at hu; rcases hu with rfl | rfl | rfl <;> rfl, by decide⟩
theorem itI : (Try.prog.info? 26).map (fun i => (i.zero, i.size, i.bytes)) = some (some (.agg #[.int .i64 0, .int .i64 0, .int .i64 0]), 3, 24) := by kernel_rfl
/-- Does x stand behind y? -/
def gtT (y x : It) : Bool := decide (y.k > x.k) || ((y.k == x.k) && decide (y.v > x.v))
/-- Where x is put in, looked for from k down. -/
def posT (out : List It) (x : It) : Nat → Nat
  | 0 => 0
  | k + 1 => if (out[k]?.any fun y => gtT y x) = true then posT out x k else k + 1
def insT (out : List It) (x : It) : List It := out.take (posT out x out.length) ++ [x] ++ out.drop (posT out x out.length)
def sortT (l : List It) : List It := l.foldl insT []
theorem posT_succ {out : List It} {x y : It} {j : Nat} (hy : out[j]? = some y) : posT out x (j + 1) = if gtT y x = true then posT out x j else j + 1 := by simp only [posT, hy, Option.any_some]
theorem posT_le (out : List It) (x : It) (k : Nat) : posT out x k ≤ k := by
  induction k with
  | zero => exact Nat.le_refl _
  | succ k ih => unfold posT; split <;> omega
theorem insT_length (out : List It) (x : It) : (insT out x).length = out.length + 1 := by
  unfold insT
  have := posT_le out x out.length
  simp; omega
theorem sortT_length (l : List It) : (sortT l).length = l.length := by
  unfold sortT
  suffices h : ∀ (l out : List It), (l.foldl insT out).length = out.length + l.length by have := h l []; simpa using this
  intro l
  induction l with
  | nil => intro out; rfl
  | cons x l ih => intro out; rw [List.foldl_cons, ih, insT_length, List.length_cons]; omega
theorem it_cells {w : World} {a : Option Addr} {n cap i : Nat} {xs : List It} {x : It} (h : Sq fT w (.slice a n cap) xs) (hi : xs[i]? = some x) :
    ∃ g off, a = some ⟨g, off, none⟩ ∧ w.cell? ⟨g, off + i * 3, none⟩ = some (.int .i64 x.k) ∧ w.cell? ⟨g, off + i * 3 + 1, none⟩ = some (.int .i64 x.v) ∧ w.cell? ⟨g, off + i * 3 + 2, none⟩ = some (.int .i64 x.d) := by
  obtain ⟨-, g, off, rfl, hc⟩ := Sq.cell fT_lays h hi
  exact ⟨g, off, rfl, hc 0 _ rfl, hc 1 _ rfl, hc 2 _ rfl⟩
/-- Where the sort stands: i of them are in. -/
def SrtAt (w : World) (l : List It) (u x : Value) (wr : World) : Prop := ∃ i, i ≤ l.length ∧ x = .int .i64 (i : Nat) ∧ wr.ownsRow w.heap.size 26 3 u (sortT (l.take i)).length ((sortT (l.take i)).flatMap fT) ∧ Fr [] w wr
/-- Where the search for an item's place stands. -/
def PosAt (wr : World) (out : List It) (x : It) (u : Value) (w' : World) : Prop := ∃ k, k ≤ out.length ∧ u = .int .i64 (k : Nat) ∧ Fr [] wr w' ∧ posT out x out.length = posT out x k
set_option maxHeartbeats 6400000 in
theorem sort_any (l : List It) (v : Value) (w : World) (hl : l.length ≤ 1000) (h : Sq fT w v l) :
    Calls Try.prog 14 #[v] w fun e w' => (∃ u, e = .returned u ∧ w'.ownsRow w.heap.size 26 3 u (sortT l).length ((sortT l).flatMap fT)) ∧ Fr [] w w' := by
  obtain ⟨a, cap, rfl, hcap, hmax, -⟩ := id h
  go_enter Try.func14, Try.ntmps14
  go_wp2_with fail
  go_loopw [3, 4] (SrtAt w l) (fun _ x _ => l.length - (intOf x).toNat)
  case atStart => exact ⟨0, by omega, rfl, ⟨rfl, .inl ⟨rfl, rfl⟩⟩, Fr.refl _ _⟩
  case round =>
    obtain ⟨i, hi, rfl, hr, F⟩ := hrel
    by_cases hlt : i < l.length
    · obtain ⟨x, hx⟩ : ∃ x, l[i]? = some x := ⟨l[i], List.getElem?_eq_getElem hlt⟩
      have hso := sortT_length (l.take i)
      have hnx : sortT (l.take (i + 1)) = insT (sortT (l.take i)) x := by
        unfold sortT
        rw [List.take_add_one, hx, Option.toList_some, List.foldl_append]; rfl
      generalize sortT (l.take i) = out at *
      have hol : out.length ≤ 1000 := by rw [hso, List.length_take]; omega
      obtain ⟨ao, co, rfl, hco, hcm, -⟩ := id (Sq.own (f := fT) hr)
      have HO := Sq.own (f := fT) hr
      have HN := Lib.hid (And.intro hnx hol)
      clear hnx hso
      go_wp2_with fail
      go_loopw [5] (PosAt wr out x) (fun u _ => (intOf u).toNat)
      case atStart => exact ⟨out.length, Nat.le_refl _, rfl, Fr.refl _ _, rfl⟩
      case round =>
        obtain ⟨k, hk, rfl, F2, hp⟩ := hrel
        rcases k with _ | j
        · obtain ⟨gl, ol, rfl, -, -, -⟩ := it_cells (h.up (F.trans F2)) hx
          by_cases h00 : out.length = 0
          · obtain rfl : out = [] := List.eq_nil_of_length_eq_zero h00
            go_wp2_with fail
            refine wp_region_in (by kernel_rfl) (by kernel_rfl) ?_
            repeat (go_big_quiet_step (fail))
            refine wpQuiet_nil ?_
            intro w5 F5
            go_wp2_with fail
            have FW := (F.trans F2).trans F5
            have HO5 := HO.up (F2.trans F5)
            have HL5 := Lib.hid (h.up FW)
            refine wp_region_env (by kernel_rfl) [] (fun w2 F2' => ?_)
            refine env_pass [true, true, true, false, true, true, true, true, false, false, true, true, true, false, false] 5 (n := 75) (listed' := #[true, true, true, false, true, true, true, true, false, false, true, true, true, false, false]) rfl (by kernel_rfl) (by kernel_rfl) (by kernel_rfl) rfl (by kernel_rfl) (fun _ _ d _ _ h => by cases d <;> exact h) F2' ?_
            apply Exists.intro
            refine ⟨fun wf Ff => ?_, ?_⟩
            · obtain ⟨gl', ol', hgl, x0, x1, x2⟩ := it_cells (HL5.out.up Ff) hx
              simp only [Option.some.injEq, Addr.mk.injEq] at hgl
              obtain ⟨rfl, rfl, -⟩ := hgl
              have j0 := In.cell x0
              have j1 := In.cell x1
              have j2 := In.cell x2
              clear x0 x1 x2
              simp only [sel]
              repeat (go_big_quiet_step (fail))
              exact wpQuiet_nil rfl
            have HS1 := Lib.hid (Sq.empty (f := fT) w5 ao hcm)
            have HS2 := Lib.hid (Sq.empty (f := fT) w5 ao hcm)
            have HT := Lib.hid (show ([] : List It).length ≤ 1000 ∧ ([] : List It).length ≤ 1000 ∧ insT [] x = [] ++ [x] ++ [] from ⟨by simp, by simp, rfl⟩)
            refine env_ready [3, 8] (by kernel_rfl) (by simp) (fun w10 F10 m hm o ho => ?_)
            have G := F2'.trans F10
            clear F10 F2'
            simp only [List.mem_cons, List.not_mem_nil, or_false] at hm
            rcases hm with rfl | rfl
            · obtain rfl := Option.some.inj ho
              have S1' := HS1.out.up G
              go_wp2_with (at_builtin; refine wpList_appSq fT_lays rfl _ _ 22 rfl Try.underlying22 itI rfl (B := w5.heap.size) (.slice none 0 0) [] rfl ⟨rfl, .inl ⟨rfl, rfl⟩⟩ _ ([] : List It) rfl S1' (by have := HT.out; simp <;> omega) (by decide) G.size ?_; intro a21 c21 w21 r21 f21)
              rw [List.nil_append] at r21
              replace G := G.trans f21
              clear f21 S1'
              refine nx_normal ⟨G, ?_⟩
              refine env_one 8 (by kernel_rfl) rfl rfl (fun w11 F11 => ?_)
              have r11 := row_keeps r21 F11
              replace G := G.trans F11
              clear r21 F11
              go_wp2_with fail
              have F12 := (Fr.refl [] w11).alloc (.cells #[.int .i64 x.k, .int .i64 x.v, .int .i64 x.d] 26)
              have B21 := Go.heap_alloc_new w11 (.cells #[.int .i64 x.k, .int .i64 x.v, .int .i64 x.d] 26)
              have r21 := row_keeps r11 F12
              replace G := G.trans F12
              clear r11 F12 ho
              refine nx_normal ⟨G, ?_⟩
              refine env_one 9 (by kernel_rfl) rfl rfl (fun w13 F13 => ?_)
              have r22 := row_keeps r21 F13
              have B22 := F13.heap B21 (by simp)
              replace G := G.trans F13
              clear r21 B21 F13
              go_wp2_with (at_builtin; refine wpList_appSq fT_lays rfl _ _ 22 rfl Try.underlying22 itI rfl (B := w5.heap.size) _ ([] : List It) rfl r22 _ [x] rfl (Sq.block B22 rfl rfl (Nat.le_refl _) (by simp [maxLen])) (by have := HT.out; simp <;> omega) (by decide) G.size ?_; intro a23 c23 w23 r23 f23; generalize hT3 : ([] : List It) ++ [x] = T3 at r23 ⊢)
              replace G := G.own f23 (row_base r22)
              clear f23 r22 B22
              refine nx_normal ⟨G, ?_⟩
              refine env_one 13 (by kernel_rfl) rfl rfl (fun w14 F14 => ?_)
              have r24 := row_keeps r23 F14
              replace G := G.trans F14
              clear r23 F14
              have S2' := HS2.out.up G
              go_wp2_with (at_builtin; refine wpList_appSq fT_lays rfl _ _ 22 rfl Try.underlying22 itI rfl (B := w5.heap.size) _ T3 rfl r24 _ ([] : List It) rfl S2' (by have := HT.out; rw [← hT3]; simp <;> omega) (by decide) G.size ?_; intro a25 c25 w25 r25 f25; generalize hT4 : T3 ++ ([] : List It) = T4 at r25 ⊢)
              replace G := G.own f25 (row_base r24)
              clear f25 r24 S2'
              refine nx_normal ⟨G, ?_⟩
              refine env_one 14 (by kernel_rfl) rfl rfl (fun w15 F15 => ?_)
              have r26 := row_keeps r25 F15
              replace G := G.trans F15
              clear r25 F15
              go_wp2
              refine nx_normal ⟨G, ?_⟩
              refine env_done (by kernel_rfl) (fun w16 F16 => ?_)
              have r27 := row_keeps r26 F16
              replace G := G.trans F16
              clear r26 F16
              have e26 : sortT (l.take (i + 1)) = T4 := by rw [HN.out.1, HT.out.2.2, hT3, hT4]
              rw [← e26] at r27 ⊢
              have r28 := row_more r27 FW.size
              go_wp2
              exact ⟨⟨i + 1, by omega, by go_num, r28, FW.trans G⟩, by simp [intOf]; omega⟩
            · obtain rfl := Option.some.inj ho
              go_wp2_with fail
              have F12 := (Fr.refl [] w10).alloc (.cells #[.int .i64 x.k, .int .i64 x.v, .int .i64 x.d] 26)
              have B12 := Go.heap_alloc_new w10 (.cells #[.int .i64 x.k, .int .i64 x.v, .int .i64 x.d] 26)
              replace G := G.trans F12
              clear F12 ho
              refine nx_normal ⟨G, ?_⟩
              refine env_one 3 (by kernel_rfl) rfl rfl (fun w11 F11 => ?_)
              have B13 := F11.heap B12 (by simp)
              replace G := G.trans F11
              clear B12 F11
              have S1' := HS1.out.up G
              go_wp2_with (at_builtin; refine wpList_appSq fT_lays rfl _ _ 22 rfl Try.underlying22 itI rfl (B := w5.heap.size) (.slice none 0 0) [] rfl ⟨rfl, .inl ⟨rfl, rfl⟩⟩ _ ([] : List It) rfl S1' (by have := HT.out; simp <;> omega) (by decide) G.size ?_; intro a21 c21 w21 r21 f21)
              rw [List.nil_append] at r21
              have B21 := Fr.heap f21 B13 (by simp [Value.ownBlock])
              replace G := G.trans f21
              clear f21 B13 S1'
              refine nx_normal ⟨G, ?_⟩
              refine env_one 9 (by kernel_rfl) rfl rfl (fun w13 F13 => ?_)
              have r22 := row_keeps r21 F13
              have B22 := F13.heap B21 (by simp)
              replace G := G.trans F13
              clear r21 B21 F13
              go_wp2_with (at_builtin; refine wpList_appSq fT_lays rfl _ _ 22 rfl Try.underlying22 itI rfl (B := w5.heap.size) _ ([] : List It) rfl r22 _ [x] rfl (Sq.block B22 rfl rfl (Nat.le_refl _) (by simp [maxLen])) (by have := HT.out; simp <;> omega) (by decide) G.size ?_; intro a23 c23 w23 r23 f23; generalize hT3 : ([] : List It) ++ [x] = T3 at r23 ⊢)
              replace G := G.own f23 (row_base r22)
              clear f23 r22 B22
              refine nx_normal ⟨G, ?_⟩
              refine env_one 13 (by kernel_rfl) rfl rfl (fun w14 F14 => ?_)
              have r24 := row_keeps r23 F14
              replace G := G.trans F14
              clear r23 F14
              have S2' := HS2.out.up G
              go_wp2_with (at_builtin; refine wpList_appSq fT_lays rfl _ _ 22 rfl Try.underlying22 itI rfl (B := w5.heap.size) _ T3 rfl r24 _ ([] : List It) rfl S2' (by have := HT.out; rw [← hT3]; simp <;> omega) (by decide) G.size ?_; intro a25 c25 w25 r25 f25; generalize hT4 : T3 ++ ([] : List It) = T4 at r25 ⊢)
              replace G := G.own f25 (row_base r24)
              clear f25 r24 S2'
              refine nx_normal ⟨G, ?_⟩
              refine env_one 14 (by kernel_rfl) rfl rfl (fun w15 F15 => ?_)
              have r26 := row_keeps r25 F15
              replace G := G.trans F15
              clear r25 F15
              go_wp2
              refine nx_normal ⟨G, ?_⟩
              refine env_done (by kernel_rfl) (fun w16 F16 => ?_)
              have r27 := row_keeps r26 F16
              replace G := G.trans F16
              clear r26 F16
              have e26 : sortT (l.take (i + 1)) = T4 := by rw [HN.out.1, HT.out.2.2, hT3, hT4]
              rw [← e26] at r27 ⊢
              have r28 := row_more r27 FW.size
              go_wp2
              exact ⟨⟨i + 1, by omega, by go_num, r28, FW.trans G⟩, by simp [intOf]; omega⟩
          · obtain ⟨y, hy⟩ : ∃ y, out[0]? = some y := ⟨out[0], List.getElem?_eq_getElem (by omega)⟩
            obtain ⟨go, oo, rfl, -, -, -⟩ := it_cells HO hy
            go_wp2_with fail
            refine wp_region_in (by kernel_rfl) (by kernel_rfl) ?_
            repeat (go_big_quiet_step (fail))
            refine wpQuiet_nil ?_
            intro w5 F5
            go_wp2_with fail
            have FW := (F.trans F2).trans F5
            have HO5 := HO.up (F2.trans F5)
            have HL5 := Lib.hid (h.up FW)
            refine wp_region_env (by kernel_rfl) [] (fun w2 F2' => ?_)
            refine env_pass [true, true, true, false, true, true, true, true, false, false, true, true, true, false, false] 5 (n := 75) (listed' := #[true, true, true, false, true, true, true, true, false, false, true, true, true, false, false]) rfl (by kernel_rfl) (by kernel_rfl) (by kernel_rfl) rfl (by kernel_rfl) (fun _ _ d _ _ h => by cases d <;> exact h) F2' ?_
            apply Exists.intro
            refine ⟨fun wf Ff => ?_, ?_⟩
            · obtain ⟨gl', ol', hgl, x0, x1, x2⟩ := it_cells (HL5.out.up Ff) hx
              simp only [Option.some.injEq, Addr.mk.injEq] at hgl
              obtain ⟨rfl, rfl, -⟩ := hgl
              have j0 := In.cell x0
              have j1 := In.cell x1
              have j2 := In.cell x2
              clear x0 x1 x2
              simp only [sel]
              repeat (go_big_quiet_step (fail))
              exact wpQuiet_nil rfl
            have HS1 := Lib.hid (Sq.empty (f := fT) w5 (some ⟨go, oo, none⟩) hcm)
            have HS2 := Lib.hid (HO5)
            have HT := Lib.hid (show ([] : List It).length ≤ 1000 ∧ out.length ≤ 1000 ∧ insT out x = [] ++ [x] ++ out from ⟨by simp, HN.out.2, by unfold insT; rw [hp]; rfl⟩)
            refine env_ready [3, 8] (by kernel_rfl) (by simp) (fun w10 F10 m hm o ho => ?_)
            have G := F2'.trans F10
            clear F10 F2'
            simp only [List.mem_cons, List.not_mem_nil, or_false] at hm
            rcases hm with rfl | rfl
            · obtain rfl := Option.some.inj ho
              have S1' := HS1.out.up G
              go_wp2_with (at_builtin; refine wpList_appSq fT_lays rfl _ _ 22 rfl Try.underlying22 itI rfl (B := w5.heap.size) (.slice none 0 0) [] rfl ⟨rfl, .inl ⟨rfl, rfl⟩⟩ _ ([] : List It) rfl S1' (by have := HT.out; simp <;> omega) (by decide) G.size ?_; intro a21 c21 w21 r21 f21)
              rw [List.nil_append] at r21
              replace G := G.trans f21
              clear f21 S1'
              refine nx_normal ⟨G, ?_⟩
              refine env_one 8 (by kernel_rfl) rfl rfl (fun w11 F11 => ?_)
              have r11 := row_keeps r21 F11
              replace G := G.trans F11
              clear r21 F11
              go_wp2_with fail
              have F12 := (Fr.refl [] w11).alloc (.cells #[.int .i64 x.k, .int .i64 x.v, .int .i64 x.d] 26)
              have B21 := Go.heap_alloc_new w11 (.cells #[.int .i64 x.k, .int .i64 x.v, .int .i64 x.d] 26)
              have r21 := row_keeps r11 F12
              replace G := G.trans F12
              clear r11 F12 ho
              refine nx_normal ⟨G, ?_⟩
              refine env_one 9 (by kernel_rfl) rfl rfl (fun w13 F13 => ?_)
              have r22 := row_keeps r21 F13
              have B22 := F13.heap B21 (by simp)
              replace G := G.trans F13
              clear r21 B21 F13
              go_wp2_with (at_builtin; refine wpList_appSq fT_lays rfl _ _ 22 rfl Try.underlying22 itI rfl (B := w5.heap.size) _ ([] : List It) rfl r22 _ [x] rfl (Sq.block B22 rfl rfl (Nat.le_refl _) (by simp [maxLen])) (by have := HT.out; simp <;> omega) (by decide) G.size ?_; intro a23 c23 w23 r23 f23; generalize hT3 : ([] : List It) ++ [x] = T3 at r23 ⊢)
              replace G := G.own f23 (row_base r22)
              clear f23 r22 B22
              refine nx_normal ⟨G, ?_⟩
              refine env_one 13 (by kernel_rfl) rfl rfl (fun w14 F14 => ?_)
              have r24 := row_keeps r23 F14
              replace G := G.trans F14
              clear r23 F14
              have S2' := HS2.out.up G
              go_wp2_with (at_builtin; refine wpList_appSq fT_lays rfl _ _ 22 rfl Try.underlying22 itI rfl (B := w5.heap.size) _ T3 rfl r24 _ out rfl S2' (by have := HT.out; rw [← hT3]; simp <;> omega) (by decide) G.size ?_; intro a25 c25 w25 r25 f25; generalize hT4 : T3 ++ out = T4 at r25 ⊢)
              replace G := G.own f25 (row_base r24)
              clear f25 r24 S2'
              refine nx_normal ⟨G, ?_⟩
              refine env_one 14 (by kernel_rfl) rfl rfl (fun w15 F15 => ?_)
              have r26 := row_keeps r25 F15
              replace G := G.trans F15
              clear r25 F15
              go_wp2
              refine nx_normal ⟨G, ?_⟩
              refine env_done (by kernel_rfl) (fun w16 F16 => ?_)
              have r27 := row_keeps r26 F16
              replace G := G.trans F16
              clear r26 F16
              have e26 : sortT (l.take (i + 1)) = T4 := by rw [HN.out.1, HT.out.2.2, hT3, hT4]
              rw [← e26] at r27 ⊢
              have r28 := row_more r27 FW.size
              go_wp2
              exact ⟨⟨i + 1, by omega, by go_num, r28, FW.trans G⟩, by simp [intOf]; omega⟩
            · obtain rfl := Option.some.inj ho
              go_wp2_with fail
              have F12 := (Fr.refl [] w10).alloc (.cells #[.int .i64 x.k, .int .i64 x.v, .int .i64 x.d] 26)
              have B12 := Go.heap_alloc_new w10 (.cells #[.int .i64 x.k, .int .i64 x.v, .int .i64 x.d] 26)
              replace G := G.trans F12
              clear F12 ho
              refine nx_normal ⟨G, ?_⟩
              refine env_one 3 (by kernel_rfl) rfl rfl (fun w11 F11 => ?_)
              have B13 := F11.heap B12 (by simp)
              replace G := G.trans F11
              clear B12 F11
              have S1' := HS1.out.up G
              go_wp2_with (at_builtin; refine wpList_appSq fT_lays rfl _ _ 22 rfl Try.underlying22 itI rfl (B := w5.heap.size) (.slice none 0 0) [] rfl ⟨rfl, .inl ⟨rfl, rfl⟩⟩ _ ([] : List It) rfl S1' (by have := HT.out; simp <;> omega) (by decide) G.size ?_; intro a21 c21 w21 r21 f21)
              rw [List.nil_append] at r21
              have B21 := Fr.heap f21 B13 (by simp [Value.ownBlock])
              replace G := G.trans f21
              clear f21 B13 S1'
              refine nx_normal ⟨G, ?_⟩
              refine env_one 9 (by kernel_rfl) rfl rfl (fun w13 F13 => ?_)
              have r22 := row_keeps r21 F13
              have B22 := F13.heap B21 (by simp)
              replace G := G.trans F13
              clear r21 B21 F13
              go_wp2_with (at_builtin; refine wpList_appSq fT_lays rfl _ _ 22 rfl Try.underlying22 itI rfl (B := w5.heap.size) _ ([] : List It) rfl r22 _ [x] rfl (Sq.block B22 rfl rfl (Nat.le_refl _) (by simp [maxLen])) (by have := HT.out; simp <;> omega) (by decide) G.size ?_; intro a23 c23 w23 r23 f23; generalize hT3 : ([] : List It) ++ [x] = T3 at r23 ⊢)
              replace G := G.own f23 (row_base r22)
              clear f23 r22 B22
              refine nx_normal ⟨G, ?_⟩
              refine env_one 13 (by kernel_rfl) rfl rfl (fun w14 F14 => ?_)
              have r24 := row_keeps r23 F14
              replace G := G.trans F14
              clear r23 F14
              have S2' := HS2.out.up G
              go_wp2_with (at_builtin; refine wpList_appSq fT_lays rfl _ _ 22 rfl Try.underlying22 itI rfl (B := w5.heap.size) _ T3 rfl r24 _ out rfl S2' (by have := HT.out; rw [← hT3]; simp <;> omega) (by decide) G.size ?_; intro a25 c25 w25 r25 f25; generalize hT4 : T3 ++ out = T4 at r25 ⊢)
              replace G := G.own f25 (row_base r24)
              clear f25 r24 S2'
              refine nx_normal ⟨G, ?_⟩
              refine env_one 14 (by kernel_rfl) rfl rfl (fun w15 F15 => ?_)
              have r26 := row_keeps r25 F15
              replace G := G.trans F15
              clear r25 F15
              go_wp2
              refine nx_normal ⟨G, ?_⟩
              refine env_done (by kernel_rfl) (fun w16 F16 => ?_)
              have r27 := row_keeps r26 F16
              replace G := G.trans F16
              clear r26 F16
              have e26 : sortT (l.take (i + 1)) = T4 := by rw [HN.out.1, HT.out.2.2, hT3, hT4]
              rw [← e26] at r27 ⊢
              have r28 := row_more r27 FW.size
              go_wp2
              exact ⟨⟨i + 1, by omega, by go_num, r28, FW.trans G⟩, by simp [intOf]; omega⟩
        · obtain ⟨y, hy⟩ : ∃ y, out[j]? = some y := ⟨out[j], List.getElem?_eq_getElem (by omega)⟩
          have HO2 := HO.up F2
          have HL2 := h.up (F.trans F2)
          obtain ⟨go, oo, rfl, y0, y1, y2⟩ := it_cells HO2 hy
          obtain ⟨gl, ol, rfl, x0, x1, x2⟩ := it_cells HL2 hx
          have hj1 : ((j + 1 : Nat) : Int) - 1 = (j : Nat) := by omega
          have hps := posT_succ (x := x) hy
          have n0 := In.cell y0
          have n1 := In.cell y1
          have m0 := In.cell x0
          have m1 := In.cell x1
          clear HO2 HL2
          by_cases e1 : y.k > x.k
          · have g1 : decide (y.k > x.k) = true := by simpa using e1
            have hg : gtT y x = true := by unfold gtT; rw [g1]; rfl
            have HP := Lib.hid (show posT out x (j + 1) = posT out x j by rw [hps, if_pos hg])
            clear hps hg
            go_wp2_with fail
            refine wp_region_in (by kernel_rfl) (by kernel_rfl) ?_
            repeat (go_big_quiet_step (fail))
            refine wpQuiet_nil ?_
            intro w5 F5
            go_wp2_with fail
            exact ⟨⟨j, by omega, rfl, F2.trans F5, hp.trans HP.out⟩, by simp [intOf]⟩
          · have g1 : decide (y.k > x.k) = false := by simpa using e1
            by_cases e2 : y.k = x.k
            · have g2 : (y.k == x.k) = true := by simpa using e2
              by_cases e3 : y.v > x.v
              · have g3 : decide (y.v > x.v) = true := by simpa using e3
                have hg : gtT y x = true := by unfold gtT; rw [g1, g2, g3]; rfl
                have HP := Lib.hid (show posT out x (j + 1) = posT out x j by rw [hps, if_pos hg])
                clear hps hg e2
                go_wp2_with fail
                refine wp_region_in (by kernel_rfl) (by kernel_rfl) ?_
                repeat (go_big_quiet_step (fail))
                refine wpQuiet_nil ?_
                intro w5 F5
                go_wp2_with fail
                exact ⟨⟨j, by omega, rfl, F2.trans F5, hp.trans HP.out⟩, by simp [intOf]⟩
              · have g3 : decide (y.v > x.v) = false := by simpa using e3
                have hg : gtT y x = false := by unfold gtT; rw [g1, g2, g3]; rfl
                have HP := Lib.hid (show posT out x (j + 1) = j + 1 by rw [hps, if_neg (by simp [hg])])
                clear hps hg e2
                go_wp2_with fail
                refine wp_region_in (by kernel_rfl) (by kernel_rfl) ?_
                repeat (go_big_quiet_step (fail))
                refine wpQuiet_nil ?_
                intro w5 F5
                clear n0 n1 m0 m1 y0 y1 y2 x0 x1 x2
                by_cases hjl : j + 1 < out.length
                · go_wp2_with fail
                  have FW := (F.trans F2).trans F5
                  have HO5 := HO.up (F2.trans F5)
                  have HL5 := Lib.hid (h.up FW)
                  refine wp_region_env (by kernel_rfl) [] (fun w2 F2' => ?_)
                  refine env_pass [true, true, true, false, true, true, true, true, false, false, true, true, true, false, false] 5 (n := 75) (listed' := #[true, true, true, false, true, true, true, true, false, false, true, true, true, false, false]) rfl (by kernel_rfl) (by kernel_rfl) (by kernel_rfl) rfl (by kernel_rfl) (fun _ _ d _ _ h => by cases d <;> exact h) F2' ?_
                  apply Exists.intro
                  refine ⟨fun wf Ff => ?_, ?_⟩
                  · obtain ⟨gl', ol', hgl, x0, x1, x2⟩ := it_cells (HL5.out.up Ff) hx
                    simp only [Option.some.injEq, Addr.mk.injEq] at hgl
                    obtain ⟨rfl, rfl, -⟩ := hgl
                    have j0 := In.cell x0
                    have j1 := In.cell x1
                    have j2 := In.cell x2
                    clear x0 x1 x2
                    simp only [sel]
                    repeat (go_big_quiet_step (fail))
                    exact wpQuiet_nil rfl
                  have HS1 := Lib.hid (Sq.take fT_lays HO5 (j + 1) (by omega))
                  have HS2 := Lib.hid (Sq.drop fT_lays HO5 (j + 1) (by omega))
                  have HT := Lib.hid (show (out.take (j + 1)).length ≤ 1000 ∧ (out.drop (j + 1)).length ≤ 1000 ∧ insT out x = out.take (j + 1) ++ [x] ++ out.drop (j + 1) from ⟨by have := HN.out; simp; omega, by have := HN.out; simp; omega, by unfold insT; rw [hp, HP.out]⟩)
                  generalize out.take (j + 1) = T1 at HS1 HT
                  generalize out.drop (j + 1) = T2 at HS2 HT
                  refine env_ready [3, 8] (by kernel_rfl) (by simp) (fun w10 F10 m hm o ho => ?_)
                  have G := F2'.trans F10
                  clear F10 F2'
                  simp only [List.mem_cons, List.not_mem_nil, or_false] at hm
                  rcases hm with rfl | rfl
                  · obtain rfl := Option.some.inj ho
                    have S1' := HS1.out.up G
                    go_wp2_with (at_builtin; refine wpList_appSq fT_lays rfl _ _ 22 rfl Try.underlying22 itI rfl (B := w5.heap.size) (.slice none 0 0) [] rfl ⟨rfl, .inl ⟨rfl, rfl⟩⟩ _ T1 rfl S1' (by have := HT.out; simp <;> omega) (by decide) G.size ?_; intro a21 c21 w21 r21 f21)
                    rw [List.nil_append] at r21
                    replace G := G.trans f21
                    clear f21 S1'
                    refine nx_normal ⟨G, ?_⟩
                    refine env_one 8 (by kernel_rfl) rfl rfl (fun w11 F11 => ?_)
                    have r11 := row_keeps r21 F11
                    replace G := G.trans F11
                    clear r21 F11
                    go_wp2_with fail
                    have F12 := (Fr.refl [] w11).alloc (.cells #[.int .i64 x.k, .int .i64 x.v, .int .i64 x.d] 26)
                    have B21 := Go.heap_alloc_new w11 (.cells #[.int .i64 x.k, .int .i64 x.v, .int .i64 x.d] 26)
                    have r21 := row_keeps r11 F12
                    replace G := G.trans F12
                    clear r11 F12 ho
                    refine nx_normal ⟨G, ?_⟩
                    refine env_one 9 (by kernel_rfl) rfl rfl (fun w13 F13 => ?_)
                    have r22 := row_keeps r21 F13
                    have B22 := F13.heap B21 (by simp)
                    replace G := G.trans F13
                    clear r21 B21 F13
                    go_wp2_with (at_builtin; refine wpList_appSq fT_lays rfl _ _ 22 rfl Try.underlying22 itI rfl (B := w5.heap.size) _ T1 rfl r22 _ [x] rfl (Sq.block B22 rfl rfl (Nat.le_refl _) (by simp [maxLen])) (by have := HT.out; simp <;> omega) (by decide) G.size ?_; intro a23 c23 w23 r23 f23; generalize hT3 : T1 ++ [x] = T3 at r23 ⊢)
                    replace G := G.own f23 (row_base r22)
                    clear f23 r22 B22
                    refine nx_normal ⟨G, ?_⟩
                    refine env_one 13 (by kernel_rfl) rfl rfl (fun w14 F14 => ?_)
                    have r24 := row_keeps r23 F14
                    replace G := G.trans F14
                    clear r23 F14
                    have S2' := HS2.out.up G
                    go_wp2_with (at_builtin; refine wpList_appSq fT_lays rfl _ _ 22 rfl Try.underlying22 itI rfl (B := w5.heap.size) _ T3 rfl r24 _ T2 rfl S2' (by have := HT.out; rw [← hT3]; simp <;> omega) (by decide) G.size ?_; intro a25 c25 w25 r25 f25; generalize hT4 : T3 ++ T2 = T4 at r25 ⊢)
                    replace G := G.own f25 (row_base r24)
                    clear f25 r24 S2'
                    refine nx_normal ⟨G, ?_⟩
                    refine env_one 14 (by kernel_rfl) rfl rfl (fun w15 F15 => ?_)
                    have r26 := row_keeps r25 F15
                    replace G := G.trans F15
                    clear r25 F15
                    go_wp2
                    refine nx_normal ⟨G, ?_⟩
                    refine env_done (by kernel_rfl) (fun w16 F16 => ?_)
                    have r27 := row_keeps r26 F16
                    replace G := G.trans F16
                    clear r26 F16
                    have e26 : sortT (l.take (i + 1)) = T4 := by rw [HN.out.1, HT.out.2.2, hT3, hT4]
                    rw [← e26] at r27 ⊢
                    have r28 := row_more r27 FW.size
                    go_wp2
                    exact ⟨⟨i + 1, by omega, by go_num, r28, FW.trans G⟩, by simp [intOf]; omega⟩
                  · obtain rfl := Option.some.inj ho
                    go_wp2_with fail
                    have F12 := (Fr.refl [] w10).alloc (.cells #[.int .i64 x.k, .int .i64 x.v, .int .i64 x.d] 26)
                    have B12 := Go.heap_alloc_new w10 (.cells #[.int .i64 x.k, .int .i64 x.v, .int .i64 x.d] 26)
                    replace G := G.trans F12
                    clear F12 ho
                    refine nx_normal ⟨G, ?_⟩
                    refine env_one 3 (by kernel_rfl) rfl rfl (fun w11 F11 => ?_)
                    have B13 := F11.heap B12 (by simp)
                    replace G := G.trans F11
                    clear B12 F11
                    have S1' := HS1.out.up G
                    go_wp2_with (at_builtin; refine wpList_appSq fT_lays rfl _ _ 22 rfl Try.underlying22 itI rfl (B := w5.heap.size) (.slice none 0 0) [] rfl ⟨rfl, .inl ⟨rfl, rfl⟩⟩ _ T1 rfl S1' (by have := HT.out; simp <;> omega) (by decide) G.size ?_; intro a21 c21 w21 r21 f21)
                    rw [List.nil_append] at r21
                    have B21 := Fr.heap f21 B13 (by simp [Value.ownBlock])
                    replace G := G.trans f21
                    clear f21 B13 S1'
                    refine nx_normal ⟨G, ?_⟩
                    refine env_one 9 (by kernel_rfl) rfl rfl (fun w13 F13 => ?_)
                    have r22 := row_keeps r21 F13
                    have B22 := F13.heap B21 (by simp)
                    replace G := G.trans F13
                    clear r21 B21 F13
                    go_wp2_with (at_builtin; refine wpList_appSq fT_lays rfl _ _ 22 rfl Try.underlying22 itI rfl (B := w5.heap.size) _ T1 rfl r22 _ [x] rfl (Sq.block B22 rfl rfl (Nat.le_refl _) (by simp [maxLen])) (by have := HT.out; simp <;> omega) (by decide) G.size ?_; intro a23 c23 w23 r23 f23; generalize hT3 : T1 ++ [x] = T3 at r23 ⊢)
                    replace G := G.own f23 (row_base r22)
                    clear f23 r22 B22
                    refine nx_normal ⟨G, ?_⟩
                    refine env_one 13 (by kernel_rfl) rfl rfl (fun w14 F14 => ?_)
                    have r24 := row_keeps r23 F14
                    replace G := G.trans F14
                    clear r23 F14
                    have S2' := HS2.out.up G
                    go_wp2_with (at_builtin; refine wpList_appSq fT_lays rfl _ _ 22 rfl Try.underlying22 itI rfl (B := w5.heap.size) _ T3 rfl r24 _ T2 rfl S2' (by have := HT.out; rw [← hT3]; simp <;> omega) (by decide) G.size ?_; intro a25 c25 w25 r25 f25; generalize hT4 : T3 ++ T2 = T4 at r25 ⊢)
                    replace G := G.own f25 (row_base r24)
                    clear f25 r24 S2'
                    refine nx_normal ⟨G, ?_⟩
                    refine env_one 14 (by kernel_rfl) rfl rfl (fun w15 F15 => ?_)
                    have r26 := row_keeps r25 F15
                    replace G := G.trans F15
                    clear r25 F15
                    go_wp2
                    refine nx_normal ⟨G, ?_⟩
                    refine env_done (by kernel_rfl) (fun w16 F16 => ?_)
                    have r27 := row_keeps r26 F16
                    replace G := G.trans F16
                    clear r26 F16
                    have e26 : sortT (l.take (i + 1)) = T4 := by rw [HN.out.1, HT.out.2.2, hT3, hT4]
                    rw [← e26] at r27 ⊢
                    have r28 := row_more r27 FW.size
                    go_wp2
                    exact ⟨⟨i + 1, by omega, by go_num, r28, FW.trans G⟩, by simp [intOf]; omega⟩
                · have hje : j + 1 = out.length := by omega
                  go_wp2_with fail
                  have FW := (F.trans F2).trans F5
                  have HO5 := HO.up (F2.trans F5)
                  have HL5 := Lib.hid (h.up FW)
                  refine wp_region_env (by kernel_rfl) [] (fun w2 F2' => ?_)
                  refine env_pass [true, true, true, false, true, true, true, true, false, false, true, true, true, false, false] 5 (n := 75) (listed' := #[true, true, true, false, true, true, true, true, false, false, true, true, true, false, false]) rfl (by kernel_rfl) (by kernel_rfl) (by kernel_rfl) rfl (by kernel_rfl) (fun _ _ d _ _ h => by cases d <;> exact h) F2' ?_
                  apply Exists.intro
                  refine ⟨fun wf Ff => ?_, ?_⟩
                  · obtain ⟨gl', ol', hgl, x0, x1, x2⟩ := it_cells (HL5.out.up Ff) hx
                    simp only [Option.some.injEq, Addr.mk.injEq] at hgl
                    obtain ⟨rfl, rfl, -⟩ := hgl
                    have j0 := In.cell x0
                    have j1 := In.cell x1
                    have j2 := In.cell x2
                    clear x0 x1 x2
                    simp only [sel]
                    repeat (go_big_quiet_step (fail))
                    exact wpQuiet_nil rfl
                  have hc2 : co - out.length ≤ maxLen := by omega
                  generalize co - out.length = c2 at hc2 ⊢
                  generalize (if co = out.length then some (⟨go, oo, none⟩ : Addr) else some (⟨go, oo + out.length * 3, none⟩ : Addr)) = a2
                  have HS1 := Lib.hid (HO5)
                  have HS2 := Lib.hid (Sq.empty (f := fT) w5 a2 hc2)
                  have hend : posT out x out.length = out.length := by have := HP.out; rw [hje] at this; exact this
                  obtain ⟨T1, hT1⟩ : ∃ T1, T1 = out := ⟨out, rfl⟩
                  have HT := Lib.hid (show T1.length ≤ 1000 ∧ ([] : List It).length ≤ 1000 ∧ insT out x = T1 ++ [x] ++ [] from ⟨by rw [hT1]; have := HN.out; omega, by simp, by rw [hT1]; unfold insT; rw [hend, List.take_length, List.drop_length]⟩)
                  have HS1 := Lib.hid (show Sq fT w5 (.slice (some ⟨go, oo, none⟩) T1.length co) T1 by rw [hT1]; exact HO5)
                  rw [← hT1]
                  have HT1 := Lib.hid hT1
                  clear hT1 hend
                  refine env_ready [3, 8] (by kernel_rfl) (by simp) (fun w10 F10 m hm o ho => ?_)
                  have G := F2'.trans F10
                  clear F10 F2'
                  simp only [List.mem_cons, List.not_mem_nil, or_false] at hm
                  rcases hm with rfl | rfl
                  · obtain rfl := Option.some.inj ho
                    have S1' := HS1.out.up G
                    go_wp2_with (at_builtin; refine wpList_appSq fT_lays rfl _ _ 22 rfl Try.underlying22 itI rfl (B := w5.heap.size) (.slice none 0 0) [] rfl ⟨rfl, .inl ⟨rfl, rfl⟩⟩ _ T1 rfl S1' (by have := HT.out; simp <;> omega) (by decide) G.size ?_; intro a21 c21 w21 r21 f21)
                    rw [List.nil_append] at r21
                    replace G := G.trans f21
                    clear f21 S1'
                    refine nx_normal ⟨G, ?_⟩
                    refine env_one 8 (by kernel_rfl) rfl rfl (fun w11 F11 => ?_)
                    have r11 := row_keeps r21 F11
                    replace G := G.trans F11
                    clear r21 F11
                    go_wp2_with fail
                    have F12 := (Fr.refl [] w11).alloc (.cells #[.int .i64 x.k, .int .i64 x.v, .int .i64 x.d] 26)
                    have B21 := Go.heap_alloc_new w11 (.cells #[.int .i64 x.k, .int .i64 x.v, .int .i64 x.d] 26)
                    have r21 := row_keeps r11 F12
                    replace G := G.trans F12
                    clear r11 F12 ho
                    refine nx_normal ⟨G, ?_⟩
                    refine env_one 9 (by kernel_rfl) rfl rfl (fun w13 F13 => ?_)
                    have r22 := row_keeps r21 F13
                    have B22 := F13.heap B21 (by simp)
                    replace G := G.trans F13
                    clear r21 B21 F13
                    go_wp2_with (at_builtin; refine wpList_appSq fT_lays rfl _ _ 22 rfl Try.underlying22 itI rfl (B := w5.heap.size) _ T1 rfl r22 _ [x] rfl (Sq.block B22 rfl rfl (Nat.le_refl _) (by simp [maxLen])) (by have := HT.out; simp <;> omega) (by decide) G.size ?_; intro a23 c23 w23 r23 f23; generalize hT3 : T1 ++ [x] = T3 at r23 ⊢)
                    replace G := G.own f23 (row_base r22)
                    clear f23 r22 B22
                    refine nx_normal ⟨G, ?_⟩
                    refine env_one 13 (by kernel_rfl) rfl rfl (fun w14 F14 => ?_)
                    have r24 := row_keeps r23 F14
                    replace G := G.trans F14
                    clear r23 F14
                    have S2' := HS2.out.up G
                    go_wp2_with (at_builtin; refine wpList_appSq fT_lays rfl _ _ 22 rfl Try.underlying22 itI rfl (B := w5.heap.size) _ T3 rfl r24 _ ([] : List It) rfl S2' (by have := HT.out; rw [← hT3]; simp <;> omega) (by decide) G.size ?_; intro a25 c25 w25 r25 f25; generalize hT4 : T3 ++ ([] : List It) = T4 at r25 ⊢)
                    replace G := G.own f25 (row_base r24)
                    clear f25 r24 S2'
                    refine nx_normal ⟨G, ?_⟩
                    refine env_one 14 (by kernel_rfl) rfl rfl (fun w15 F15 => ?_)
                    have r26 := row_keeps r25 F15
                    replace G := G.trans F15
                    clear r25 F15
                    go_wp2
                    refine nx_normal ⟨G, ?_⟩
                    refine env_done (by kernel_rfl) (fun w16 F16 => ?_)
                    have r27 := row_keeps r26 F16
                    replace G := G.trans F16
                    clear r26 F16
                    have e26 : sortT (l.take (i + 1)) = T4 := by rw [HN.out.1, HT.out.2.2, hT3, hT4]
                    rw [← e26] at r27 ⊢
                    have r28 := row_more r27 FW.size
                    go_wp2
                    exact ⟨⟨i + 1, by omega, by go_num, r28, FW.trans G⟩, by simp [intOf]; omega⟩
                  · obtain rfl := Option.some.inj ho
                    go_wp2_with fail
                    have F12 := (Fr.refl [] w10).alloc (.cells #[.int .i64 x.k, .int .i64 x.v, .int .i64 x.d] 26)
                    have B12 := Go.heap_alloc_new w10 (.cells #[.int .i64 x.k, .int .i64 x.v, .int .i64 x.d] 26)
                    replace G := G.trans F12
                    clear F12 ho
                    refine nx_normal ⟨G, ?_⟩
                    refine env_one 3 (by kernel_rfl) rfl rfl (fun w11 F11 => ?_)
                    have B13 := F11.heap B12 (by simp)
                    replace G := G.trans F11
                    clear B12 F11
                    have S1' := HS1.out.up G
                    go_wp2_with (at_builtin; refine wpList_appSq fT_lays rfl _ _ 22 rfl Try.underlying22 itI rfl (B := w5.heap.size) (.slice none 0 0) [] rfl ⟨rfl, .inl ⟨rfl, rfl⟩⟩ _ T1 rfl S1' (by have := HT.out; simp <;> omega) (by decide) G.size ?_; intro a21 c21 w21 r21 f21)
                    rw [List.nil_append] at r21
                    have B21 := Fr.heap f21 B13 (by simp [Value.ownBlock])
                    replace G := G.trans f21
                    clear f21 B13 S1'
                    refine nx_normal ⟨G, ?_⟩
                    refine env_one 9 (by kernel_rfl) rfl rfl (fun w13 F13 => ?_)
                    have r22 := row_keeps r21 F13
                    have B22 := F13.heap B21 (by simp)
                    replace G := G.trans F13
                    clear r21 B21 F13
                    go_wp2_with (at_builtin; refine wpList_appSq fT_lays rfl _ _ 22 rfl Try.underlying22 itI rfl (B := w5.heap.size) _ T1 rfl r22 _ [x] rfl (Sq.block B22 rfl rfl (Nat.le_refl _) (by simp [maxLen])) (by have := HT.out; simp <;> omega) (by decide) G.size ?_; intro a23 c23 w23 r23 f23; generalize hT3 : T1 ++ [x] = T3 at r23 ⊢)
                    replace G := G.own f23 (row_base r22)
                    clear f23 r22 B22
                    refine nx_normal ⟨G, ?_⟩
                    refine env_one 13 (by kernel_rfl) rfl rfl (fun w14 F14 => ?_)
                    have r24 := row_keeps r23 F14
                    replace G := G.trans F14
                    clear r23 F14
                    have S2' := HS2.out.up G
                    go_wp2_with (at_builtin; refine wpList_appSq fT_lays rfl _ _ 22 rfl Try.underlying22 itI rfl (B := w5.heap.size) _ T3 rfl r24 _ ([] : List It) rfl S2' (by have := HT.out; rw [← hT3]; simp <;> omega) (by decide) G.size ?_; intro a25 c25 w25 r25 f25; generalize hT4 : T3 ++ ([] : List It) = T4 at r25 ⊢)
                    replace G := G.own f25 (row_base r24)
                    clear f25 r24 S2'
                    refine nx_normal ⟨G, ?_⟩
                    refine env_one 14 (by kernel_rfl) rfl rfl (fun w15 F15 => ?_)
                    have r26 := row_keeps r25 F15
                    replace G := G.trans F15
                    clear r25 F15
                    go_wp2
                    refine nx_normal ⟨G, ?_⟩
                    refine env_done (by kernel_rfl) (fun w16 F16 => ?_)
                    have r27 := row_keeps r26 F16
                    replace G := G.trans F16
                    clear r26 F16
                    have e26 : sortT (l.take (i + 1)) = T4 := by rw [HN.out.1, HT.out.2.2, hT3, hT4]
                    rw [← e26] at r27 ⊢
                    have r28 := row_more r27 FW.size
                    go_wp2
                    exact ⟨⟨i + 1, by omega, by go_num, r28, FW.trans G⟩, by simp [intOf]; omega⟩
            · have g2 : (y.k == x.k) = false := by simpa using e2
              have hg : gtT y x = false := by unfold gtT; rw [g1, g2]; rfl
              have HP := Lib.hid (show posT out x (j + 1) = j + 1 by rw [hps, if_neg (by simp [hg])])
              clear hps hg
              go_wp2_with fail
              refine wp_region_in (by kernel_rfl) (by kernel_rfl) ?_
              repeat (go_big_quiet_step (fail))
              refine wpQuiet_nil ?_
              intro w5 F5
              clear n0 n1 m0 m1 y0 y1 y2 x0 x1 x2
              by_cases hjl : j + 1 < out.length
              · go_wp2_with fail
                have FW := (F.trans F2).trans F5
                have HO5 := HO.up (F2.trans F5)
                have HL5 := Lib.hid (h.up FW)
                refine wp_region_env (by kernel_rfl) [] (fun w2 F2' => ?_)
                refine env_pass [true, true, true, false, true, true, true, true, false, false, true, true, true, false, false] 5 (n := 75) (listed' := #[true, true, true, false, true, true, true, true, false, false, true, true, true, false, false]) rfl (by kernel_rfl) (by kernel_rfl) (by kernel_rfl) rfl (by kernel_rfl) (fun _ _ d _ _ h => by cases d <;> exact h) F2' ?_
                apply Exists.intro
                refine ⟨fun wf Ff => ?_, ?_⟩
                · obtain ⟨gl', ol', hgl, x0, x1, x2⟩ := it_cells (HL5.out.up Ff) hx
                  simp only [Option.some.injEq, Addr.mk.injEq] at hgl
                  obtain ⟨rfl, rfl, -⟩ := hgl
                  have j0 := In.cell x0
                  have j1 := In.cell x1
                  have j2 := In.cell x2
                  clear x0 x1 x2
                  simp only [sel]
                  repeat (go_big_quiet_step (fail))
                  exact wpQuiet_nil rfl
                have HS1 := Lib.hid (Sq.take fT_lays HO5 (j + 1) (by omega))
                have HS2 := Lib.hid (Sq.drop fT_lays HO5 (j + 1) (by omega))
                have HT := Lib.hid (show (out.take (j + 1)).length ≤ 1000 ∧ (out.drop (j + 1)).length ≤ 1000 ∧ insT out x = out.take (j + 1) ++ [x] ++ out.drop (j + 1) from ⟨by have := HN.out; simp; omega, by have := HN.out; simp; omega, by unfold insT; rw [hp, HP.out]⟩)
                generalize out.take (j + 1) = T1 at HS1 HT
                generalize out.drop (j + 1) = T2 at HS2 HT
                refine env_ready [3, 8] (by kernel_rfl) (by simp) (fun w10 F10 m hm o ho => ?_)
                have G := F2'.trans F10
                clear F10 F2'
                simp only [List.mem_cons, List.not_mem_nil, or_false] at hm
                rcases hm with rfl | rfl
                · obtain rfl := Option.some.inj ho
                  have S1' := HS1.out.up G
                  go_wp2_with (at_builtin; refine wpList_appSq fT_lays rfl _ _ 22 rfl Try.underlying22 itI rfl (B := w5.heap.size) (.slice none 0 0) [] rfl ⟨rfl, .inl ⟨rfl, rfl⟩⟩ _ T1 rfl S1' (by have := HT.out; simp <;> omega) (by decide) G.size ?_; intro a21 c21 w21 r21 f21)
                  rw [List.nil_append] at r21
                  replace G := G.trans f21
                  clear f21 S1'
                  refine nx_normal ⟨G, ?_⟩
                  refine env_one 8 (by kernel_rfl) rfl rfl (fun w11 F11 => ?_)
                  have r11 := row_keeps r21 F11
                  replace G := G.trans F11
                  clear r21 F11
                  go_wp2_with fail
                  have F12 := (Fr.refl [] w11).alloc (.cells #[.int .i64 x.k, .int .i64 x.v, .int .i64 x.d] 26)
                  have B21 := Go.heap_alloc_new w11 (.cells #[.int .i64 x.k, .int .i64 x.v, .int .i64 x.d] 26)
                  have r21 := row_keeps r11 F12
                  replace G := G.trans F12
                  clear r11 F12 ho
                  refine nx_normal ⟨G, ?_⟩
                  refine env_one 9 (by kernel_rfl) rfl rfl (fun w13 F13 => ?_)
                  have r22 := row_keeps r21 F13
                  have B22 := F13.heap B21 (by simp)
                  replace G := G.trans F13
                  clear r21 B21 F13
                  go_wp2_with (at_builtin; refine wpList_appSq fT_lays rfl _ _ 22 rfl Try.underlying22 itI rfl (B := w5.heap.size) _ T1 rfl r22 _ [x] rfl (Sq.block B22 rfl rfl (Nat.le_refl _) (by simp [maxLen])) (by have := HT.out; simp <;> omega) (by decide) G.size ?_; intro a23 c23 w23 r23 f23; generalize hT3 : T1 ++ [x] = T3 at r23 ⊢)
                  replace G := G.own f23 (row_base r22)
                  clear f23 r22 B22
                  refine nx_normal ⟨G, ?_⟩
                  refine env_one 13 (by kernel_rfl) rfl rfl (fun w14 F14 => ?_)
                  have r24 := row_keeps r23 F14
                  replace G := G.trans F14
                  clear r23 F14
                  have S2' := HS2.out.up G
                  go_wp2_with (at_builtin; refine wpList_appSq fT_lays rfl _ _ 22 rfl Try.underlying22 itI rfl (B := w5.heap.size) _ T3 rfl r24 _ T2 rfl S2' (by have := HT.out; rw [← hT3]; simp <;> omega) (by decide) G.size ?_; intro a25 c25 w25 r25 f25; generalize hT4 : T3 ++ T2 = T4 at r25 ⊢)
                  replace G := G.own f25 (row_base r24)
                  clear f25 r24 S2'
                  refine nx_normal ⟨G, ?_⟩
                  refine env_one 14 (by kernel_rfl) rfl rfl (fun w15 F15 => ?_)
                  have r26 := row_keeps r25 F15
                  replace G := G.trans F15
                  clear r25 F15
                  go_wp2
                  refine nx_normal ⟨G, ?_⟩
                  refine env_done (by kernel_rfl) (fun w16 F16 => ?_)
                  have r27 := row_keeps r26 F16
                  replace G := G.trans F16
                  clear r26 F16
                  have e26 : sortT (l.take (i + 1)) = T4 := by rw [HN.out.1, HT.out.2.2, hT3, hT4]
                  rw [← e26] at r27 ⊢
                  have r28 := row_more r27 FW.size
                  go_wp2
                  exact ⟨⟨i + 1, by omega, by go_num, r28, FW.trans G⟩, by simp [intOf]; omega⟩
                · obtain rfl := Option.some.inj ho
                  go_wp2_with fail
                  have F12 := (Fr.refl [] w10).alloc (.cells #[.int .i64 x.k, .int .i64 x.v, .int .i64 x.d] 26)
                  have B12 := Go.heap_alloc_new w10 (.cells #[.int .i64 x.k, .int .i64 x.v, .int .i64 x.d] 26)
                  replace G := G.trans F12
                  clear F12 ho
                  refine nx_normal ⟨G, ?_⟩
                  refine env_one 3 (by kernel_rfl) rfl rfl (fun w11 F11 => ?_)
                  have B13 := F11.heap B12 (by simp)
                  replace G := G.trans F11
                  clear B12 F11
                  have S1' := HS1.out.up G
                  go_wp2_with (at_builtin; refine wpList_appSq fT_lays rfl _ _ 22 rfl Try.underlying22 itI rfl (B := w5.heap.size) (.slice none 0 0) [] rfl ⟨rfl, .inl ⟨rfl, rfl⟩⟩ _ T1 rfl S1' (by have := HT.out; simp <;> omega) (by decide) G.size ?_; intro a21 c21 w21 r21 f21)
                  rw [List.nil_append] at r21
                  have B21 := Fr.heap f21 B13 (by simp [Value.ownBlock])
                  replace G := G.trans f21
                  clear f21 B13 S1'
                  refine nx_normal ⟨G, ?_⟩
                  refine env_one 9 (by kernel_rfl) rfl rfl (fun w13 F13 => ?_)
                  have r22 := row_keeps r21 F13
                  have B22 := F13.heap B21 (by simp)
                  replace G := G.trans F13
                  clear r21 B21 F13
                  go_wp2_with (at_builtin; refine wpList_appSq fT_lays rfl _ _ 22 rfl Try.underlying22 itI rfl (B := w5.heap.size) _ T1 rfl r22 _ [x] rfl (Sq.block B22 rfl rfl (Nat.le_refl _) (by simp [maxLen])) (by have := HT.out; simp <;> omega) (by decide) G.size ?_; intro a23 c23 w23 r23 f23; generalize hT3 : T1 ++ [x] = T3 at r23 ⊢)
                  replace G := G.own f23 (row_base r22)
                  clear f23 r22 B22
                  refine nx_normal ⟨G, ?_⟩
                  refine env_one 13 (by kernel_rfl) rfl rfl (fun w14 F14 => ?_)
                  have r24 := row_keeps r23 F14
                  replace G := G.trans F14
                  clear r23 F14
                  have S2' := HS2.out.up G
                  go_wp2_with (at_builtin; refine wpList_appSq fT_lays rfl _ _ 22 rfl Try.underlying22 itI rfl (B := w5.heap.size) _ T3 rfl r24 _ T2 rfl S2' (by have := HT.out; rw [← hT3]; simp <;> omega) (by decide) G.size ?_; intro a25 c25 w25 r25 f25; generalize hT4 : T3 ++ T2 = T4 at r25 ⊢)
                  replace G := G.own f25 (row_base r24)
                  clear f25 r24 S2'
                  refine nx_normal ⟨G, ?_⟩
                  refine env_one 14 (by kernel_rfl) rfl rfl (fun w15 F15 => ?_)
                  have r26 := row_keeps r25 F15
                  replace G := G.trans F15
                  clear r25 F15
                  go_wp2
                  refine nx_normal ⟨G, ?_⟩
                  refine env_done (by kernel_rfl) (fun w16 F16 => ?_)
                  have r27 := row_keeps r26 F16
                  replace G := G.trans F16
                  clear r26 F16
                  have e26 : sortT (l.take (i + 1)) = T4 := by rw [HN.out.1, HT.out.2.2, hT3, hT4]
                  rw [← e26] at r27 ⊢
                  have r28 := row_more r27 FW.size
                  go_wp2
                  exact ⟨⟨i + 1, by omega, by go_num, r28, FW.trans G⟩, by simp [intOf]; omega⟩
              · have hje : j + 1 = out.length := by omega
                go_wp2_with fail
                have FW := (F.trans F2).trans F5
                have HO5 := HO.up (F2.trans F5)
                have HL5 := Lib.hid (h.up FW)
                refine wp_region_env (by kernel_rfl) [] (fun w2 F2' => ?_)
                refine env_pass [true, true, true, false, true, true, true, true, false, false, true, true, true, false, false] 5 (n := 75) (listed' := #[true, true, true, false, true, true, true, true, false, false, true, true, true, false, false]) rfl (by kernel_rfl) (by kernel_rfl) (by kernel_rfl) rfl (by kernel_rfl) (fun _ _ d _ _ h => by cases d <;> exact h) F2' ?_
                apply Exists.intro
                refine ⟨fun wf Ff => ?_, ?_⟩
                · obtain ⟨gl', ol', hgl, x0, x1, x2⟩ := it_cells (HL5.out.up Ff) hx
                  simp only [Option.some.injEq, Addr.mk.injEq] at hgl
                  obtain ⟨rfl, rfl, -⟩ := hgl
                  have j0 := In.cell x0
                  have j1 := In.cell x1
                  have j2 := In.cell x2
                  clear x0 x1 x2
                  simp only [sel]
                  repeat (go_big_quiet_step (fail))
                  exact wpQuiet_nil rfl
                have hc2 : co - out.length ≤ maxLen := by omega
                generalize co - out.length = c2 at hc2 ⊢
                generalize (if co = out.length then some (⟨go, oo, none⟩ : Addr) else some (⟨go, oo + out.length * 3, none⟩ : Addr)) = a2
                have HS1 := Lib.hid (HO5)
                have HS2 := Lib.hid (Sq.empty (f := fT) w5 a2 hc2)
                have hend : posT out x out.length = out.length := by have := HP.out; rw [hje] at this; exact this
                obtain ⟨T1, hT1⟩ : ∃ T1, T1 = out := ⟨out, rfl⟩
                have HT := Lib.hid (show T1.length ≤ 1000 ∧ ([] : List It).length ≤ 1000 ∧ insT out x = T1 ++ [x] ++ [] from ⟨by rw [hT1]; have := HN.out; omega, by simp, by rw [hT1]; unfold insT; rw [hend, List.take_length, List.drop_length]⟩)
                have HS1 := Lib.hid (show Sq fT w5 (.slice (some ⟨go, oo, none⟩) T1.length co) T1 by rw [hT1]; exact HO5)
                rw [← hT1]
                have HT1 := Lib.hid hT1
                clear hT1 hend
                refine env_ready [3, 8] (by kernel_rfl) (by simp) (fun w10 F10 m hm o ho => ?_)
                have G := F2'.trans F10
                clear F10 F2'
                simp only [List.mem_cons, List.not_mem_nil, or_false] at hm
                rcases hm with rfl | rfl
                · obtain rfl := Option.some.inj ho
                  have S1' := HS1.out.up G
                  go_wp2_with (at_builtin; refine wpList_appSq fT_lays rfl _ _ 22 rfl Try.underlying22 itI rfl (B := w5.heap.size) (.slice none 0 0) [] rfl ⟨rfl, .inl ⟨rfl, rfl⟩⟩ _ T1 rfl S1' (by have := HT.out; simp <;> omega) (by decide) G.size ?_; intro a21 c21 w21 r21 f21)
                  rw [List.nil_append] at r21
                  replace G := G.trans f21
                  clear f21 S1'
                  refine nx_normal ⟨G, ?_⟩
                  refine env_one 8 (by kernel_rfl) rfl rfl (fun w11 F11 => ?_)
                  have r11 := row_keeps r21 F11
                  replace G := G.trans F11
                  clear r21 F11
                  go_wp2_with fail
                  have F12 := (Fr.refl [] w11).alloc (.cells #[.int .i64 x.k, .int .i64 x.v, .int .i64 x.d] 26)
                  have B21 := Go.heap_alloc_new w11 (.cells #[.int .i64 x.k, .int .i64 x.v, .int .i64 x.d] 26)
                  have r21 := row_keeps r11 F12
                  replace G := G.trans F12
                  clear r11 F12 ho
                  refine nx_normal ⟨G, ?_⟩
                  refine env_one 9 (by kernel_rfl) rfl rfl (fun w13 F13 => ?_)
                  have r22 := row_keeps r21 F13
                  have B22 := F13.heap B21 (by simp)
                  replace G := G.trans F13
                  clear r21 B21 F13
                  go_wp2_with (at_builtin; refine wpList_appSq fT_lays rfl _ _ 22 rfl Try.underlying22 itI rfl (B := w5.heap.size) _ T1 rfl r22 _ [x] rfl (Sq.block B22 rfl rfl (Nat.le_refl _) (by simp [maxLen])) (by have := HT.out; simp <;> omega) (by decide) G.size ?_; intro a23 c23 w23 r23 f23; generalize hT3 : T1 ++ [x] = T3 at r23 ⊢)
                  replace G := G.own f23 (row_base r22)
                  clear f23 r22 B22
                  refine nx_normal ⟨G, ?_⟩
                  refine env_one 13 (by kernel_rfl) rfl rfl (fun w14 F14 => ?_)
                  have r24 := row_keeps r23 F14
                  replace G := G.trans F14
                  clear r23 F14
                  have S2' := HS2.out.up G
                  go_wp2_with (at_builtin; refine wpList_appSq fT_lays rfl _ _ 22 rfl Try.underlying22 itI rfl (B := w5.heap.size) _ T3 rfl r24 _ ([] : List It) rfl S2' (by have := HT.out; rw [← hT3]; simp <;> omega) (by decide) G.size ?_; intro a25 c25 w25 r25 f25; generalize hT4 : T3 ++ ([] : List It) = T4 at r25 ⊢)
                  replace G := G.own f25 (row_base r24)
                  clear f25 r24 S2'
                  refine nx_normal ⟨G, ?_⟩
                  refine env_one 14 (by kernel_rfl) rfl rfl (fun w15 F15 => ?_)
                  have r26 := row_keeps r25 F15
                  replace G := G.trans F15
                  clear r25 F15
                  go_wp2
                  refine nx_normal ⟨G, ?_⟩
                  refine env_done (by kernel_rfl) (fun w16 F16 => ?_)
                  have r27 := row_keeps r26 F16
                  replace G := G.trans F16
                  clear r26 F16
                  have e26 : sortT (l.take (i + 1)) = T4 := by rw [HN.out.1, HT.out.2.2, hT3, hT4]
                  rw [← e26] at r27 ⊢
                  have r28 := row_more r27 FW.size
                  go_wp2
                  exact ⟨⟨i + 1, by omega, by go_num, r28, FW.trans G⟩, by simp [intOf]; omega⟩
                · obtain rfl := Option.some.inj ho
                  go_wp2_with fail
                  have F12 := (Fr.refl [] w10).alloc (.cells #[.int .i64 x.k, .int .i64 x.v, .int .i64 x.d] 26)
                  have B12 := Go.heap_alloc_new w10 (.cells #[.int .i64 x.k, .int .i64 x.v, .int .i64 x.d] 26)
                  replace G := G.trans F12
                  clear F12 ho
                  refine nx_normal ⟨G, ?_⟩
                  refine env_one 3 (by kernel_rfl) rfl rfl (fun w11 F11 => ?_)
                  have B13 := F11.heap B12 (by simp)
                  replace G := G.trans F11
                  clear B12 F11
                  have S1' := HS1.out.up G
                  go_wp2_with (at_builtin; refine wpList_appSq fT_lays rfl _ _ 22 rfl Try.underlying22 itI rfl (B := w5.heap.size) (.slice none 0 0) [] rfl ⟨rfl, .inl ⟨rfl, rfl⟩⟩ _ T1 rfl S1' (by have := HT.out; simp <;> omega) (by decide) G.size ?_; intro a21 c21 w21 r21 f21)
                  rw [List.nil_append] at r21
                  have B21 := Fr.heap f21 B13 (by simp [Value.ownBlock])
                  replace G := G.trans f21
                  clear f21 B13 S1'
                  refine nx_normal ⟨G, ?_⟩
                  refine env_one 9 (by kernel_rfl) rfl rfl (fun w13 F13 => ?_)
                  have r22 := row_keeps r21 F13
                  have B22 := F13.heap B21 (by simp)
                  replace G := G.trans F13
                  clear r21 B21 F13
                  go_wp2_with (at_builtin; refine wpList_appSq fT_lays rfl _ _ 22 rfl Try.underlying22 itI rfl (B := w5.heap.size) _ T1 rfl r22 _ [x] rfl (Sq.block B22 rfl rfl (Nat.le_refl _) (by simp [maxLen])) (by have := HT.out; simp <;> omega) (by decide) G.size ?_; intro a23 c23 w23 r23 f23; generalize hT3 : T1 ++ [x] = T3 at r23 ⊢)
                  replace G := G.own f23 (row_base r22)
                  clear f23 r22 B22
                  refine nx_normal ⟨G, ?_⟩
                  refine env_one 13 (by kernel_rfl) rfl rfl (fun w14 F14 => ?_)
                  have r24 := row_keeps r23 F14
                  replace G := G.trans F14
                  clear r23 F14
                  have S2' := HS2.out.up G
                  go_wp2_with (at_builtin; refine wpList_appSq fT_lays rfl _ _ 22 rfl Try.underlying22 itI rfl (B := w5.heap.size) _ T3 rfl r24 _ ([] : List It) rfl S2' (by have := HT.out; rw [← hT3]; simp <;> omega) (by decide) G.size ?_; intro a25 c25 w25 r25 f25; generalize hT4 : T3 ++ ([] : List It) = T4 at r25 ⊢)
                  replace G := G.own f25 (row_base r24)
                  clear f25 r24 S2'
                  refine nx_normal ⟨G, ?_⟩
                  refine env_one 14 (by kernel_rfl) rfl rfl (fun w15 F15 => ?_)
                  have r26 := row_keeps r25 F15
                  replace G := G.trans F15
                  clear r25 F15
                  go_wp2
                  refine nx_normal ⟨G, ?_⟩
                  refine env_done (by kernel_rfl) (fun w16 F16 => ?_)
                  have r27 := row_keeps r26 F16
                  replace G := G.trans F16
                  clear r26 F16
                  have e26 : sortT (l.take (i + 1)) = T4 := by rw [HN.out.1, HT.out.2.2, hT3, hT4]
                  rw [← e26] at r27 ⊢
                  have r28 := row_more r27 FW.size
                  go_wp2
                  exact ⟨⟨i + 1, by omega, by go_num, r28, FW.trans G⟩, by simp [intOf]; omega⟩
    · obtain rfl : i = l.length := by omega
      rw [List.take_length] at hr
      have HR := Lib.hid hr
      obtain ⟨ao, co, rfl, -, -⟩ := row_cell hr
      go_wp2_with fail
      go_ret
      exact ⟨⟨_, rfl, HR.out⟩, F⟩
end Go.Proofs.Yteahponbknljlaa.Mx
