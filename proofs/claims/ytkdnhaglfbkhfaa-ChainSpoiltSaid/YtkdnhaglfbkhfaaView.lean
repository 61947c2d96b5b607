/- Package view: chunks, as they lie: what each function answers. -/
import Derived.Test.YtkdnhaglfbkhfaaItem
import Derived.Test.YtkdnhaglfbkhfaaPlace
import Derived.Test.YtkdnhaglfbkhfaaErr
import Derived.WalkSpells
import Derived.ChangeKeysEq
namespace Go.Proofs.Ytkdnhaglfbkhfaa.Vw
open Go.RowKit Go.Proofs.Ytkdnhaglfbkhfaa.Ar Go.Proofs.Ytkdnhaglfbkhfaa.Mx
set_option linter.unusedVariables false
set_option linter.unusedSimpArgs false
/-- A cell: state, key, data. -/
structure Ce where
  s : Int
  k : Int
  d : Int
deriving DecidableEq
def fC (x : Ce) : List Value := [.int .i64 x.s, .int .i64 x.k, .int .i64 x.d]
theorem fC_lays : Lays fC 3 := ⟨fun _ => rfl, fun x u hu => by simp [fC] at hu; rcases hu with rfl | rfl | rfl <;> rfl, by decide⟩
theorem ceI : (Try.prog.info? 90).map (fun i => (i.zero, i.size, i.bytes)) = some (some (.agg #[.int .i64 0, .int .i64 0, .int .i64 0]), 3, 24) := by kernel_rfl
/-- A chunk but for its cells. -/
structure Hd where
  at_ : Int
  mn : Int
  ct : Int
  nx : Int
  ld : Int
  mt : Int
  rp : Int
  st : Int
deriving DecidableEq
def chV (h : Hd) (lv : Value) : Value := .agg #[.int .i64 h.at_, .int .i64 h.mn, .int .i64 h.ct, .int .i64 h.nx, .int .i64 h.ld, .int .i64 h.mt, .int .i64 h.rp, .int .i64 h.st, lv]
def frV (h : Hd) : Value := .agg #[.int .i64 h.at_, .int .i64 h.mn, .int .i64 h.ct, .int .i64 h.nx, .int .i64 h.ld, .int .i64 h.mt, .int .i64 h.rp, .int .i64 h.st]
def chC (h : Hd) (lv : Value) : Array Value := #[.int .i64 h.at_, .int .i64 h.mn, .int .i64 h.ct, .int .i64 h.nx, .int .i64 h.ld, .int .i64 h.mt, .int .i64 h.rp, .int .i64 h.st, lv]
theorem ch_cells {w : World} {b : Nat} {T : TypeId} {h : Hd} {lv : Value} (o : Ob w b T (chC h lv)) : w.cell? ⟨b, 0, none⟩ = some (.int .i64 h.at_) ∧ w.cell? ⟨b, 1, none⟩ = some (.int .i64 h.mn) ∧ w.cell? ⟨b, 2, none⟩ = some (.int .i64 h.ct) ∧ w.cell? ⟨b, 3, none⟩ = some (.int .i64 h.nx) ∧ w.cell? ⟨b, 4, none⟩ = some (.int .i64 h.ld) ∧ w.cell? ⟨b, 5, none⟩ = some (.int .i64 h.mt) ∧ w.cell? ⟨b, 6, none⟩ = some (.int .i64 h.rp) ∧ w.cell? ⟨b, 7, none⟩ = some (.int .i64 h.st) ∧ w.cell? ⟨b, 8, none⟩ = some lv :=
  ⟨o.cell rfl, o.cell rfl, o.cell rfl, o.cell rfl, o.cell rfl, o.cell rfl, o.cell rfl, o.cell rfl, o.cell rfl⟩
def ChIs (w : World) (v : Value) (h : Hd) (cs : List Ce) : Prop := ∃ lv, v = chV h lv ∧ Sq fC w lv cs
theorem ChIs.up {w w' : World} {v : Value} {h : Hd} {cs : List Ce} (k : ChIs w v h cs) (f : Fr [] w w') : ChIs w' v h cs := by
  obtain ⟨lv, rfl, s⟩ := k
  exact ⟨lv, rfl, s.up f⟩
def verV (s : Int) : Int := if s < 3 then -1 else wrap64 (s - 3)
def itemC (c : Ce) : Option It := if 3 ≤ c.s then some ⟨c.k, verV c.s, c.d⟩ else none
def itemsC (cs : List Ce) : List It := cs.filterMap itemC
theorem version_any (s : Int) (w : World) : Calls Try.prog 45 #[.int .i64 s] w fun e w' => e = .returned (.int .i64 (verV s)) ∧ w = w' := by
  by_cases c : s < 3
  all_goals
    go_enter Try.func45, Try.ntmps45
    go_wp2
    go_ret
    exact ret_int (by unfold verV; first | (rw [if_pos (by omega)]; done) | (rw [if_neg (by omega)]; done))
theorem ceGuard : Try.prog.eqGuardType Try.prog.depth 90 = false := by kernel_rfl
theorem ce_neq (x y : Ce) (W : World) : (binOp .neq 90 (.agg #[.int .i64 x.s, .int .i64 x.k, .int .i64 x.d]) (.agg #[.int .i64 y.s, .int .i64 y.k, .int .i64 y.d])).run Try.prog W = .ok (.bool (decide (x ≠ y))) W := by
  obtain ⟨k, i, o⟩ := x
  obtain ⟨k', i', o'⟩ := y
  have u3 := Try.underlying3
  have a3 : (isAgg 3).run Try.prog W = .ok false W := by kernel_rfl
  have hS : Try.prog.underlying 90 = some (.struct (Try.prog.fieldsOf 90)) := by kernel_rfl
  have hp : Try.prog.stoodInHeld 90 = false := by kernel_rfl
  rw [run_neq_struct, show (10000 : Nat) = 9999 + 1 from rfl, run_equalIn_agg W 9999 90 _ _ hS hp]
  simp only [Program.fieldsOf, Try.underlying90]
  go_simp
  by_cases h1 : k = k' <;> by_cases h2 : i = i' <;> by_cases h3 : o = o' <;> simp [h1, h2, h3]
theorem ce_cells {w : World} {a : Option Addr} {n cap i : Nat} {xs : List Ce} {x : Ce} (h : Sq fC w (.slice a n cap) xs) (hi : xs[i]? = some x) :
    ∃ g off, a = some ⟨g, off, none⟩ ∧ w.cell? ⟨g, off + i * 3, none⟩ = some (.int .i64 x.s) ∧ w.cell? ⟨g, off + i * 3 + 1, none⟩ = some (.int .i64 x.k) ∧ w.cell? ⟨g, off + i * 3 + 2, none⟩ = some (.int .i64 x.d) := by
  obtain ⟨-, g, off, rfl, hc⟩ := Sq.cell fC_lays h hi
  exact ⟨g, off, rfl, hc 0 _ rfl, hc 1 _ rfl, hc 2 _ rfl⟩
theorem itemsC_succ {cs : List Ce} {i : Nat} {x : Ce} (hx : cs[i]? = some x) : itemsC (cs.take (i + 1)) = itemsC (cs.take i) ++ (itemC x).toList := by
  unfold itemsC
  rw [List.take_add_one, hx, Option.toList_some, List.filterMap_append]
  cases h : itemC x <;> simp [h]
theorem itemsC_length (cs : List Ce) : (itemsC cs).length ≤ cs.length := by unfold itemsC; exact List.length_filterMap_le _ _
/-- Where the search for items stands. -/
def ItAt (w : World) (cs : List Ce) (u x : Value) (wr : World) : Prop := ∃ i, i ≤ cs.length ∧ x = .int .i64 (i : Nat) ∧ wr.ownsRow w.heap.size 73 3 u (itemsC (cs.take i)).length ((itemsC (cs.take i)).flatMap fT) ∧ Fr [] w wr
set_option maxHeartbeats 3200000 in
theorem items_any (h : Hd) (cs : List Ce) (v : Value) (w : World) (hl : cs.length ≤ 1000) (hv : ChIs w v h cs) :
    Calls Try.prog 37 #[v] w fun e w' => (∃ u, e = .returned u ∧ w'.ownsRow w.heap.size 73 3 u (itemsC cs).length ((itemsC cs).flatMap fT)) ∧ Fr [] w w' := by
  obtain ⟨lv, rfl, hs⟩ := hv
  obtain ⟨a, cap, rfl, hcap, hmax, -⟩ := id hs
  unfold chV
  obtain ⟨-, -, -, -, -, -, -, -, c8⟩ := ch_cells (Ob.new w 63 (chC h (.slice a cs.length cap)))
  unfold chC at c8
  have F0 := (Fr.refl [] w).alloc (.cells #[.int .i64 h.at_, .int .i64 h.mn, .int .i64 h.ct, .int .i64 h.nx, .int .i64 h.ld, .int .i64 h.mt, .int .i64 h.rp, .int .i64 h.st, .slice a cs.length cap] 63)
  go_enter Try.func37, Try.ntmps37
  go_wp2_with fail
  have hs0 := hs.up F0
  have hlen0 := F0.size
  clear c8
  generalize (w.alloc (.cells #[.int .i64 h.at_, .int .i64 h.mn, .int .i64 h.ct, .int .i64 h.nx, .int .i64 h.ld, .int .i64 h.mt, .int .i64 h.rp, .int .i64 h.st, .slice a cs.length cap] 63)) = w0 at *
  go_loopw [3, 9] (ItAt w cs) (fun _ x _ => cs.length - (intOf x).toNat)
  case atStart => exact ⟨0, by omega, rfl, ⟨rfl, .inl ⟨rfl, rfl⟩⟩, F0⟩
  case round =>
    obtain ⟨i, hi, rfl, hr, F⟩ := hrel
    by_cases hlt : i < cs.length
    · obtain ⟨x, hx⟩ : ∃ x, cs[i]? = some x := ⟨cs[i], List.getElem?_eq_getElem hlt⟩
      obtain ⟨g, off, rfl, d0, d1, d2⟩ := ce_cells (hs.up F) hx
      have hN := Lib.hid (itemsC_succ hx)
      have hLI := Lib.hid (Nat.le_trans (itemsC_length (cs.take i)) (by rw [List.length_take]; omega : (cs.take i).length ≤ 1000))
      have F1 := (Fr.refl [] wr).alloc (.cells #[.int .i64 x.s, .int .i64 x.k, .int .i64 x.d] 90)
      have o1 := Ob.new wr 90 #[.int .i64 x.s, .int .i64 x.k, .int .i64 x.d]
      have r1 := row_keeps hr F1
      by_cases h3 : 3 ≤ x.s
      · have g1 : decide (x.s ≥ 3) = true := by simpa using h3
        have hI : itemC x = some ⟨x.k, verV x.s, x.d⟩ := by unfold itemC; rw [if_pos h3]
        go_wp2_with fail
        have FW := F.trans F1
        generalize (wr.alloc (.cells #[.int .i64 x.s, .int .i64 x.k, .int .i64 x.d] 90)) = w5 at *
        clear hr
        refine wp_region_env (by kernel_rfl) u3.ownBlock.toList (fun w2 F2 => ?_)
        refine env_pass [true, true, true, true, true, true, true, true, true, false, false, false] 3 (n := 29) (listed' := #[true, true, true, true, true, true, true, true, true, false, false, false]) rfl (by kernel_rfl) (by kernel_rfl) (by kernel_rfl) rfl (by kernel_rfl) (fun _ _ d _ _ h => by cases d <;> exact h) (F2.mono (by simp)) ?_
        apply Exists.intro
        refine ⟨fun wf Ff => ?_, ?_⟩
        · have of := Ob.kept o1 Ff (row_ne r1 o1 (by decide))
          have k0 := In.cell (of.cell (i := 0) rfl)
          have k1 := In.cell (of.cell (i := 1) rfl)
          have k2 := In.cell (of.cell (i := 2) rfl)
          clear of
          simp only [sel]
          repeat (go_big_quiet_step ((go_at_call 45; exact Calls.in_same (version_any _ _))))
          exact wpQuiet_nil rfl
        have HI := Lib.hid hI
        clear hI h3 g1 o1
        refine env_one 9 (by kernel_rfl) rfl rfl (fun w3 F3 => ?_)
        have r3 := row_keeps r1 (F2.trans F3)
        have G := FW.trans (F2.trans F3)
        have M := (F2.trans F3).size
        have E := (F2.trans F3).mono (T := u3.ownBlock.toList) (by simp)
        clear r1 F2 F3
        go_wp2_with fail
        have F4 := (Fr.refl [] w3).alloc (.cells #[.int .i64 x.k, .int .i64 (verV x.s), .int .i64 x.d] 73)
        have o4 := Ob.new w3 73 #[.int .i64 x.k, .int .i64 (verV x.s), .int .i64 x.d]
        refine nx_normal ⟨E.then F4, ?_⟩
        refine env_one 10 (by kernel_rfl) rfl rfl (fun w6 F6 => ?_)
        have r6 := row_keeps r3 (F4.trans F6)
        have o6 := o4.up F6
        replace G := G.trans (F4.trans F6)
        replace E := E.then (F4.trans F6)
        clear r3 o4 F4 F6
        go_wp2_with (at_builtin; refine wpList_appSq fT_lays rfl _ _ 82 rfl Try.underlying82 itI rfl (B := w.heap.size) _ _ rfl r6 _ [⟨x.k, verV x.s, x.d⟩] rfl (Sq.block o6 rfl rfl (Nat.le_refl _) (by simp [maxLen])) (by have := hLI.out; simp <;> omega) (by decide) G.size ?_; intro a7 c7 w7 r7 F7; generalize hT : itemsC (cs.take i) ++ [(⟨x.k, verV x.s, x.d⟩ : It)] = T at r7 ⊢)
        refine nx_normal ⟨E.trans F7, ?_⟩
        refine env_one 11 (by kernel_rfl) rfl rfl (fun w8 F8 => ?_)
        have hn : itemsC (cs.take (i + 1)) = T := by rw [hN.out, HI.out, ← hT]; rfl
        have r8 := row_keeps r7 F8
        replace G := (G.own F7 (row_base r6)).trans F8
        replace E := (E.trans F7).then F8
        rw [← hn] at r8 ⊢
        clear r7 r6 o6 F7 F8 hn hT
        go_wp2
        refine nx_normal ⟨E, ?_⟩
        refine env_done (by kernel_rfl) (fun w9 F9 => ?_)
        have r9 := row_keeps r8 F9
        replace G := G.trans F9
        clear r8 F9 E
        go_wp2
        exact ⟨⟨i + 1, by omega, by go_num, r9, G⟩, by simp [intOf]; omega⟩
      · have g1 : decide (x.s ≥ 3) = false := by simpa using h3
        have hI : itemC x = none := by unfold itemC; rw [if_neg h3]
        have hn := hN.out
        rw [hI, Option.toList_none, List.append_nil] at hn
        have HN := Lib.hid hn
        clear hn hI hr o1
        go_wp2_with fail
        exact ⟨⟨i + 1, by omega, by go_num, by rw [HN.out]; exact r1, F.trans F1⟩, by simp [intOf]; omega⟩
    · obtain rfl : i = cs.length := by omega
      rw [List.take_length] at hr
      have HR := Lib.hid hr
      clear hr
      go_wp2
      go_ret
      exact ⟨⟨_, rfl, HR.out⟩, F⟩
/-- Rows of cells. -/
def EqCAt (w : World) (xs ys : List Ce) (x : Value) (wr : World) : Prop := ∃ n : Nat, n ≤ xs.length ∧ x = .int .i64 n ∧ Fr [] w wr ∧ xs.take n = ys.take n
theorem take_more {α : Type} {xs ys : List α} {n : Nat} {x y : α} (h : xs.take n = ys.take n) (hx : xs[n]? = some x) (hy : ys[n]? = some y) (e : x = y) : xs.take (n + 1) = ys.take (n + 1) := by
  rw [List.take_add_one, List.take_add_one, h, hx, hy, e]
theorem take_less {α : Type} [DecidableEq α] {xs ys : List α} {n : Nat} {x y : α} (hx : xs[n]? = some x) (hy : ys[n]? = some y) (e : x ≠ y) : decide (xs = ys) = false := by
  apply decide_eq_false; rintro rfl; rw [hx] at hy; exact e (Option.some.inj hy)
end Go.Proofs.Ytkdnhaglfbkhfaa.Vw
