/- Package place: the words that an arena begins with, and the arena. -/
import Derived.Test.YtfchbbhopfganaaPlace
import Derived.Test.YtfchbbhopfganaaMaps
import Derived.Test.YtfchbbhopfganaaEnv
import Derived.Stop.IfaceNil
namespace Go.Proofs.Ytfchbbhopfganaa.Pl
open Go.RowKit Go.Proofs.Ytfchbbhopfganaa.Ar
theorem lt_max {n : Nat} (h : n < 1000) : n < maxLen := by unfold maxLen; omega
theorem wf_small {k : Int} (h1 : -100000000 ≤ k) (h2 : k ≤ 100000000) : (Lit.int .i64 k).wf = true := WalkArith.wf_i64 (by omega)
/-- The map that firstWords makes. -/
def Firsts (t c : Int) (w : World) (e : Ending) (w' : World) : Prop := ∃ b n g, e = .returned (.map (some b)) ∧ w.heap.size ≤ b ∧ n ≤ 3 ∧ IMap w' b n g ∧ Fr [] w w' ∧
  ∀ k, g k = if k = 2 then some (21 + t + 3 * c) else if k = 7 + t then some (-1) else if k = 9 + t then some (2 * (14 + t)) else none
set_option maxHeartbeats 1600000 in
theorem firstWords_any (t c wd v : Int) (h1 : 1 ≤ t) (h2 : t ≤ 8) (h3 : 1 ≤ c) (h4 : c ≤ 16) (w : World) :
    Calls Try.prog 18 #[.agg #[.int .i64 t, .int .i64 c, .int .i64 wd, .int .i64 v]] w (Firsts t c w) := by
  have hmm := @run_makeMap Try.prog
  go_enter Try.func18, Try.ntmps18
  go_wp2_with fail
  refine (head_any t c wd v h1 h2 _).mono ?_; rintro e w1 ⟨rfl, F1⟩
  have hb := F1.heap (Go.heap_alloc_new w (.cells #[.int .i64 t, .int .i64 c, .int .i64 wd, .int .i64 v] 25)) (by simp)
  have G1 := ((Fr.refl [] w).alloc _).trans F1
  have HB := Lib.hid hb
  have HG := Lib.hid G1
  clear hb G1 F1
  go_wp2
  refine wp_region_env (by kernel_rfl) [] (fun w2 F2 => ?_)
  refine env_pass [false, true, true, false, true, true, false, true, true, true, true, true, false, false, false] 6 (n := 17) (listed' := #[false, true, true, false, true, true, false, true, true, true, true, true, false, false, false]) rfl (by kernel_rfl) (by kernel_rfl) (by kernel_rfl) rfl (by kernel_rfl) (fun _ _ d _ _ h => by cases d <;> exact h) F2 ?_
  apply Exists.intro
  refine ⟨fun wf Ff => ?_, ?_⟩
  · obtain ⟨c0, c1, c2, c3⟩ := cells4 (Ff.heap HB.out (by simp))
    have k0 := In.cell c0
    have k1 := In.cell c1
    have k2 := In.cell c2
    have k3 := In.cell c3
    clear c0 c1 c2 c3 Ff
    simp only [sel]
    repeat (go_big_quiet_step ((first | (go_at_call 14; exact Calls.in_ (first_any _ _ _ _ h1 h2 _)) | (go_at_call 29; exact Calls.in_ (top_any _ _ _ _ h1 h2 h3 h4 _)))))
    exact wpQuiet_nil rfl
  refine env_one 0 (by kernel_rfl) rfl rfl (fun w3 F3 => ?_)
  go_wp2
  have D := (F2.trans F3).alloc (.map #[] 0)
  have M := IMap.made w3
  have hb : w1.heap.size ≤ w3.heap.size := (F2.trans F3).size
  generalize w3.alloc (.map #[] 0) = w4 at D M ⊢
  generalize w3.heap.size = b at M hb ⊢
  clear F2 F3
  refine nx_normal ⟨D, ?_⟩
  refine env_ready [3, 6, 12] (by kernel_rfl) (by simp) (fun w5 F5 i hi o ho => ?_)
  have M5 := M.kept F5 (by simp)
  have D5 := D.trans F5
  clear D F5 M
  simp only [List.mem_cons, List.not_mem_nil, or_false] at hi
  rcases hi with rfl | rfl | rfl
  · obtain rfl := Option.some.inj ho
    refine wpList_insert rfl _ _ _ rfl _ _ rfl rfl rfl M5 (lt_max (by omega)) (wf_small (by omega) (by omega)) (wf_small (by omega) (by omega)) ?_
    intro w6 M6 F6
    have D6 := D5.own F6 (by simp; omega)
    simp only [Act.put]
    clear M5 D5 F6 ho
    refine nx_normal ⟨D6, ?_⟩
    refine env_ready [6, 12] (by kernel_rfl) (by simp) (fun w7 F7 i hi o ho => ?_)
    have M7 := M6.kept F7 (by simp)
    have D7 := D6.trans F7
    clear D6 F7 M6
    simp only [List.mem_cons, List.not_mem_nil, or_false] at hi
    rcases hi with rfl | rfl
    · obtain rfl := Option.some.inj ho
      refine wpList_insert rfl _ _ _ rfl _ _ rfl rfl rfl M7 (lt_max (by omega)) (wf_small (by omega) (by omega)) (wf_small (by omega) (by omega)) ?_
      intro w8 M8 F8
      have D8 := D7.own F8 (by simp; omega)
      simp only [Act.put]
      clear M7 D7 F8 ho
      refine nx_normal ⟨D8, ?_⟩
      refine env_one 12 (by kernel_rfl) rfl rfl (fun w9 F9 => ?_)
      have M9 := M8.kept F9 (by simp)
      have D9 := D8.trans F9
      clear D8 F9 M8
      refine wpList_insert rfl _ _ _ rfl _ _ rfl rfl rfl M9 (lt_max (by omega)) (wf_small (by omega) (by omega)) (wf_small (by omega) (by omega)) ?_
      intro w10 M10 F10
      have D10 := D9.own F10 (by simp; omega)
      simp only [Act.put]
      clear M9 D9 F10
      refine nx_normal ⟨D10, ?_⟩
      refine env_pass [false, false, false, false, false, false, false, false, false, false, false, false, false, true, true] 0 (n := 17) rfl (by kernel_rfl) (by kernel_rfl) (by kernel_rfl) rfl rfl (fun _ _ d _ _ h => by cases d <;> exact h) D10 ?_
      apply Exists.intro
      refine ⟨fun wf Ff => ?_, ?_⟩
      · simp only [sel]
        repeat (go_big_quiet_step (fail))
        exact wpQuiet_nil rfl
      refine env_done (by kernel_rfl) (fun w11 F11 => ?_)
      have M11 := M10.kept F11 (by simp)
      have D11 := HG.out.trans (D10.trans F11)
      have hb' := Nat.le_trans HG.out.size hb
      clear D10 F11 M10
      go_wp2
      go_ret
      exact ⟨b, _, _, rfl, hb', by omega, M11, D11, fun k => by
        simp only [show 3 + t + 4 = 7 + t by omega, show 7 + t + 2 = 9 + t by omega, show 2 * (7 + t + 7) = 2 * (14 + t) by omega] <;> (
        have a1 : k = 2 → ¬ k = 7 + t ∧ ¬ k = 9 + t := by omega
        have a2 : k = 7 + t → ¬ k = 9 + t := by omega
        by_cases e1 : k = 2
        · simp only [if_pos e1, if_neg (a1 e1).1, if_neg (a1 e1).2]
        by_cases e2 : k = 7 + t
        · simp only [if_neg e1, if_pos e2, if_neg (a2 e2)]
        by_cases e3 : k = 9 + t
        · simp only [if_neg e1, if_neg e2, if_pos e3]
        · simp only [if_neg e1, if_neg e2, if_neg e3])⟩
    · obtain rfl := Option.some.inj ho
      refine wpList_insert rfl _ _ _ rfl _ _ rfl rfl rfl M7 (lt_max (by omega)) (wf_small (by omega) (by omega)) (wf_small (by omega) (by omega)) ?_
      intro w8 M8 F8
      have D8 := D7.own F8 (by simp; omega)
      simp only [Act.put]
      clear M7 D7 F8 ho
      refine nx_normal ⟨D8, ?_⟩
      refine env_one 6 (by kernel_rfl) rfl rfl (fun w9 F9 => ?_)
      have M9 := M8.kept F9 (by simp)
      have D9 := D8.trans F9
      clear D8 F9 M8
      refine wpList_insert rfl _ _ _ rfl _ _ rfl rfl rfl M9 (lt_max (by omega)) (wf_small (by omega) (by omega)) (wf_small (by omega) (by omega)) ?_
      intro w10 M10 F10
      have D10 := D9.own F10 (by simp; omega)
      simp only [Act.put]
      clear M9 D9 F10
      refine nx_normal ⟨D10, ?_⟩
      refine env_pass [false, false, false, false, false, false, false, false, false, false, false, false, false, true, true] 0 (n := 17) rfl (by kernel_rfl) (by kernel_rfl) (by kernel_rfl) rfl rfl (fun _ _ d _ _ h => by cases d <;> exact h) D10 ?_
      apply Exists.intro
      refine ⟨fun wf Ff => ?_, ?_⟩
      · simp only [sel]
        repeat (go_big_quiet_step (fail))
        exact wpQuiet_nil rfl
      refine env_done (by kernel_rfl) (fun w11 F11 => ?_)
      have M11 := M10.kept F11 (by simp)
      have D11 := HG.out.trans (D10.trans F11)
      have hb' := Nat.le_trans HG.out.size hb
      clear D10 F11 M10
      go_wp2
      go_ret
      exact ⟨b, _, _, rfl, hb', by omega, M11, D11, fun k => by
        simp only [show 3 + t + 4 = 7 + t by omega, show 7 + t + 2 = 9 + t by omega, show 2 * (7 + t + 7) = 2 * (14 + t) by omega] <;> (
        have a1 : k = 2 → ¬ k = 7 + t ∧ ¬ k = 9 + t := by omega
        have a2 : k = 7 + t → ¬ k = 9 + t := by omega
        by_cases e1 : k = 2
        · simp only [if_pos e1, if_neg (a1 e1).1, if_neg (a1 e1).2]
        by_cases e2 : k = 7 + t
        · simp only [if_neg e1, if_pos e2, if_neg (a2 e2)]
        by_cases e3 : k = 9 + t
        · simp only [if_neg e1, if_neg e2, if_pos e3]
        · simp only [if_neg e1, if_neg e2, if_neg e3])⟩
  · obtain rfl := Option.some.inj ho
    refine wpList_insert rfl _ _ _ rfl _ _ rfl rfl rfl M5 (lt_max (by omega)) (wf_small (by omega) (by omega)) (wf_small (by omega) (by omega)) ?_
    intro w6 M6 F6
    have D6 := D5.own F6 (by simp; omega)
    simp only [Act.put]
    clear M5 D5 F6 ho
    refine nx_normal ⟨D6, ?_⟩
    refine env_ready [3, 12] (by kernel_rfl) (by simp) (fun w7 F7 i hi o ho => ?_)
    have M7 := M6.kept F7 (by simp)
    have D7 := D6.trans F7
    clear D6 F7 M6
    simp only [List.mem_cons, List.not_mem_nil, or_false] at hi
    rcases hi with rfl | rfl
    · obtain rfl := Option.some.inj ho
      refine wpList_insert rfl _ _ _ rfl _ _ rfl rfl rfl M7 (lt_max (by omega)) (wf_small (by omega) (by omega)) (wf_small (by omega) (by omega)) ?_
      intro w8 M8 F8
      have D8 := D7.own F8 (by simp; omega)
      simp only [Act.put]
      clear M7 D7 F8 ho
      refine nx_normal ⟨D8, ?_⟩
      refine env_one 12 (by kernel_rfl) rfl rfl (fun w9 F9 => ?_)
      have M9 := M8.kept F9 (by simp)
      have D9 := D8.trans F9
      clear D8 F9 M8
      refine wpList_insert rfl _ _ _ rfl _ _ rfl rfl rfl M9 (lt_max (by omega)) (wf_small (by omega) (by omega)) (wf_small (by omega) (by omega)) ?_
      intro w10 M10 F10
      have D10 := D9.own F10 (by simp; omega)
      simp only [Act.put]
      clear M9 D9 F10
      refine nx_normal ⟨D10, ?_⟩
      refine env_pass [false, false, false, false, false, false, false, false, false, false, false, false, false, true, true] 0 (n := 17) rfl (by kernel_rfl) (by kernel_rfl) (by kernel_rfl) rfl rfl (fun _ _ d _ _ h => by cases d <;> exact h) D10 ?_
      apply Exists.intro
      refine ⟨fun wf Ff => ?_, ?_⟩
      · simp only [sel]
        repeat (go_big_quiet_step (fail))
        exact wpQuiet_nil rfl
      refine env_done (by kernel_rfl) (fun w11 F11 => ?_)
      have M11 := M10.kept F11 (by simp)
      have D11 := HG.out.trans (D10.trans F11)
      have hb' := Nat.le_trans HG.out.size hb
      clear D10 F11 M10
      go_wp2
      go_ret
      exact ⟨b, _, _, rfl, hb', by omega, M11, D11, fun k => by
        simp only [show 3 + t + 4 = 7 + t by omega, show 7 + t + 2 = 9 + t by omega, show 2 * (7 + t + 7) = 2 * (14 + t) by omega] <;> (
        have a1 : k = 2 → ¬ k = 7 + t ∧ ¬ k = 9 + t := by omega
        have a2 : k = 7 + t → ¬ k = 9 + t := by omega
        by_cases e1 : k = 2
        · simp only [if_pos e1, if_neg (a1 e1).1, if_neg (a1 e1).2]
        by_cases e2 : k = 7 + t
        · simp only [if_neg e1, if_pos e2, if_neg (a2 e2)]
        by_cases e3 : k = 9 + t
        · simp only [if_neg e1, if_neg e2, if_pos e3]
        · simp only [if_neg e1, if_neg e2, if_neg e3])⟩
    · obtain rfl := Option.some.inj ho
      refine wpList_insert rfl _ _ _ rfl _ _ rfl rfl rfl M7 (lt_max (by omega)) (wf_small (by omega) (by omega)) (wf_small (by omega) (by omega)) ?_
      intro w8 M8 F8
      have D8 := D7.own F8 (by simp; omega)
      simp only [Act.put]
      clear M7 D7 F8 ho
      refine nx_normal ⟨D8, ?_⟩
      refine env_one 3 (by kernel_rfl) rfl rfl (fun w9 F9 => ?_)
      have M9 := M8.kept F9 (by simp)
      have D9 := D8.trans F9
      clear D8 F9 M8
      refine wpList_insert rfl _ _ _ rfl _ _ rfl rfl rfl M9 (lt_max (by omega)) (wf_small (by omega) (by omega)) (wf_small (by omega) (by omega)) ?_
      intro w10 M10 F10
      have D10 := D9.own F10 (by simp; omega)
      simp only [Act.put]
      clear M9 D9 F10
      refine nx_normal ⟨D10, ?_⟩
      refine env_pass [false, false, false, false, false, false, false, false, false, false, false, false, false, true, true] 0 (n := 17) rfl (by kernel_rfl) (by kernel_rfl) (by kernel_rfl) rfl rfl (fun _ _ d _ _ h => by cases d <;> exact h) D10 ?_
      apply Exists.intro
      refine ⟨fun wf Ff => ?_, ?_⟩
      · simp only [sel]
        repeat (go_big_quiet_step (fail))
        exact wpQuiet_nil rfl
      refine env_done (by kernel_rfl) (fun w11 F11 => ?_)
      have M11 := M10.kept F11 (by simp)
      have D11 := HG.out.trans (D10.trans F11)
      have hb' := Nat.le_trans HG.out.size hb
      clear D10 F11 M10
      go_wp2
      go_ret
      exact ⟨b, _, _, rfl, hb', by omega, M11, D11, fun k => by
        simp only [show 3 + t + 4 = 7 + t by omega, show 7 + t + 2 = 9 + t by omega, show 2 * (7 + t + 7) = 2 * (14 + t) by omega] <;> (
        have a1 : k = 2 → ¬ k = 7 + t ∧ ¬ k = 9 + t := by omega
        have a2 : k = 7 + t → ¬ k = 9 + t := by omega
        by_cases e1 : k = 2
        · simp only [if_pos e1, if_neg (a1 e1).1, if_neg (a1 e1).2]
        by_cases e2 : k = 7 + t
        · simp only [if_neg e1, if_pos e2, if_neg (a2 e2)]
        by_cases e3 : k = 9 + t
        · simp only [if_neg e1, if_neg e2, if_pos e3]
        · simp only [if_neg e1, if_neg e2, if_neg e3])⟩
  · obtain rfl := Option.some.inj ho
    refine wpList_insert rfl _ _ _ rfl _ _ rfl rfl rfl M5 (lt_max (by omega)) (wf_small (by omega) (by omega)) (wf_small (by omega) (by omega)) ?_
    intro w6 M6 F6
    have D6 := D5.own F6 (by simp; omega)
    simp only [Act.put]
    clear M5 D5 F6 ho
    refine nx_normal ⟨D6, ?_⟩
    refine env_ready [3, 6] (by kernel_rfl) (by simp) (fun w7 F7 i hi o ho => ?_)
    have M7 := M6.kept F7 (by simp)
    have D7 := D6.trans F7
    clear D6 F7 M6
    simp only [List.mem_cons, List.not_mem_nil, or_false] at hi
    rcases hi with rfl | rfl
    · obtain rfl := Option.some.inj ho
      refine wpList_insert rfl _ _ _ rfl _ _ rfl rfl rfl M7 (lt_max (by omega)) (wf_small (by omega) (by omega)) (wf_small (by omega) (by omega)) ?_
      intro w8 M8 F8
      have D8 := D7.own F8 (by simp; omega)
      simp only [Act.put]
      clear M7 D7 F8 ho
      refine nx_normal ⟨D8, ?_⟩
      refine env_one 6 (by kernel_rfl) rfl rfl (fun w9 F9 => ?_)
      have M9 := M8.kept F9 (by simp)
      have D9 := D8.trans F9
      clear D8 F9 M8
      refine wpList_insert rfl _ _ _ rfl _ _ rfl rfl rfl M9 (lt_max (by omega)) (wf_small (by omega) (by omega)) (wf_small (by omega) (by omega)) ?_
      intro w10 M10 F10
      have D10 := D9.own F10 (by simp; omega)
      simp only [Act.put]
      clear M9 D9 F10
      refine nx_normal ⟨D10, ?_⟩
      refine env_pass [false, false, false, false, false, false, false, false, false, false, false, false, false, true, true] 0 (n := 17) rfl (by kernel_rfl) (by kernel_rfl) (by kernel_rfl) rfl rfl (fun _ _ d _ _ h => by cases d <;> exact h) D10 ?_
      apply Exists.intro
      refine ⟨fun wf Ff => ?_, ?_⟩
      · simp only [sel]
        repeat (go_big_quiet_step (fail))
        exact wpQuiet_nil rfl
      refine env_done (by kernel_rfl) (fun w11 F11 => ?_)
      have M11 := M10.kept F11 (by simp)
      have D11 := HG.out.trans (D10.trans F11)
      have hb' := Nat.le_trans HG.out.size hb
      clear D10 F11 M10
      go_wp2
      go_ret
      exact ⟨b, _, _, rfl, hb', by omega, M11, D11, fun k => by
        simp only [show 3 + t + 4 = 7 + t by omega, show 7 + t + 2 = 9 + t by omega, show 2 * (7 + t + 7) = 2 * (14 + t) by omega] <;> (
        have a1 : k = 2 → ¬ k = 7 + t ∧ ¬ k = 9 + t := by omega
        have a2 : k = 7 + t → ¬ k = 9 + t := by omega
        by_cases e1 : k = 2
        · simp only [if_pos e1, if_neg (a1 e1).1, if_neg (a1 e1).2]
        by_cases e2 : k = 7 + t
        · simp only [if_neg e1, if_pos e2, if_neg (a2 e2)]
        by_cases e3 : k = 9 + t
        · simp only [if_neg e1, if_neg e2, if_pos e3]
        · simp only [if_neg e1, if_neg e2, if_neg e3])⟩
    · obtain rfl := Option.some.inj ho
      refine wpList_insert rfl _ _ _ rfl _ _ rfl rfl rfl M7 (lt_max (by omega)) (wf_small (by omega) (by omega)) (wf_small (by omega) (by omega)) ?_
      intro w8 M8 F8
      have D8 := D7.own F8 (by simp; omega)
      simp only [Act.put]
      clear M7 D7 F8 ho
      refine nx_normal ⟨D8, ?_⟩
      refine env_one 3 (by kernel_rfl) rfl rfl (fun w9 F9 => ?_)
      have M9 := M8.kept F9 (by simp)
      have D9 := D8.trans F9
      clear D8 F9 M8
      refine wpList_insert rfl _ _ _ rfl _ _ rfl rfl rfl M9 (lt_max (by omega)) (wf_small (by omega) (by omega)) (wf_small (by omega) (by omega)) ?_
      intro w10 M10 F10
      have D10 := D9.own F10 (by simp; omega)
      simp only [Act.put]
      clear M9 D9 F10
      refine nx_normal ⟨D10, ?_⟩
      refine env_pass [false, false, false, false, false, false, false, false, false, false, false, false, false, true, true] 0 (n := 17) rfl (by kernel_rfl) (by kernel_rfl) (by kernel_rfl) rfl rfl (fun _ _ d _ _ h => by cases d <;> exact h) D10 ?_
      apply Exists.intro
      refine ⟨fun wf Ff => ?_, ?_⟩
      · simp only [sel]
        repeat (go_big_quiet_step (fail))
        exact wpQuiet_nil rfl
      refine env_done (by kernel_rfl) (fun w11 F11 => ?_)
      have M11 := M10.kept F11 (by simp)
      have D11 := HG.out.trans (D10.trans F11)
      have hb' := Nat.le_trans HG.out.size hb
      clear D10 F11 M10
      go_wp2
      go_ret
      exact ⟨b, _, _, rfl, hb', by omega, M11, D11, fun k => by
        simp only [show 3 + t + 4 = 7 + t by omega, show 7 + t + 2 = 9 + t by omega, show 2 * (7 + t + 7) = 2 * (14 + t) by omega] <;> (
        have a1 : k = 2 → ¬ k = 7 + t ∧ ¬ k = 9 + t := by omega
        have a2 : k = 7 + t → ¬ k = 9 + t := by omega
        by_cases e1 : k = 2
        · simp only [if_pos e1, if_neg (a1 e1).1, if_neg (a1 e1).2]
        by_cases e2 : k = 7 + t
        · simp only [if_neg e1, if_pos e2, if_neg (a2 e2)]
        by_cases e3 : k = 9 + t
        · simp only [if_neg e1, if_neg e2, if_pos e3]
        · simp only [if_neg e1, if_neg e2, if_neg e3])⟩
/-- The arena that a configuration begins with. -/
def begun (t c wd : Int) : St := (((St.fresh wd.toNat).poke 2 (21 + t + 3 * c)).poke (7 + t) (-1)).poke (9 + t) (2 * (14 + t))
theorem St.ext' {s u : St} (hl : s.l.length = u.l.length) (hi : ∀ i, i < s.l.length → nth s.l i = nth u.l i) (hn : s.n = u.n) (ha : s.a = u.a) : s = u := by
  obtain ⟨l, n, a⟩ := s
  obtain ⟨l', n', a'⟩ := u
  simp only at hl hi hn ha
  subst hn; subst ha
  have : l = l' := List.ext_getElem hl fun i h1 h2 => by
    have := hi i h1
    simpa [nth, List.getD_eq_getElem?_getD, h1, h2] using this
  rw [this]
/-- What is laid where, at the beginning. -/
def laidAt (t c : Int) (k : Int) : Int := if k = 2 then 21 + t + 3 * c else if k = 7 + t then -1 else if k = 9 + t then 2 * (14 + t) else 0
theorem begun_nth {t c wd : Int} (h1 : 1 ≤ t) (h2 : t ≤ 8) (h3 : 1 ≤ c) (hw : 21 + t + 3 * c ≤ wd) :
    (begun t c wd).l.length = wd.toNat ∧ (∀ i : Nat, i < wd.toNat → nth (begun t c wd).l i = laidAt t c i) ∧ (begun t c wd).n = 0 ∧ (begun t c wd).a = ⟨0, 0, 0, 0, false⟩ := by
  obtain ⟨n, rfl⟩ := Int.eq_ofNat_of_zero_le (show 0 ≤ wd by omega)
  obtain ⟨m, rfl⟩ := Int.eq_ofNat_of_zero_le (show 0 ≤ t by omega)
  have e7 : (7 : Int) + (m : Int) = ((7 + m : Nat) : Int) := by omega
  have e9 : (9 : Int) + (m : Int) = ((9 + m : Nat) : Int) := by omega
  have e2 : (2 : Int) = ((2 : Nat) : Int) := rfl
  refine ⟨by simp [begun, St.poke, length_poke, St.fresh], fun i hi => ?_, rfl, rfl⟩
  simp only [Int.toNat_natCast] at hi
  have hf : nth (St.fresh (Int.toNat (n : Int))).l i = 0 := by simp [nth, St.fresh, List.getD_eq_getElem?_getD, hi]
  simp only [begun, St.poke, e7, e9]
  rw [nth_poke _ (by simp [length_poke, St.fresh]; omega), nth_poke _ (by simp [length_poke, St.fresh]; omega), e2, nth_poke _ (by simp [St.fresh]; omega), hf, laidAt]
  by_cases a2 : i = 2
  · subst a2
    rw [if_neg (by omega), if_neg (by omega), if_pos rfl]
    exact (if_pos rfl).symm
  by_cases a7 : i = 7 + m
  · subst a7
    rw [if_neg (by omega), if_pos rfl, if_neg (by omega), if_pos (by omega)]
  by_cases a9 : i = 9 + m
  · subst a9
    rw [if_pos rfl, if_neg (by omega), if_neg (by omega), if_pos (by omega)]
    rfl
  · rw [if_neg a9, if_neg a7, if_neg a2, if_neg (by omega), if_neg (by omega), if_neg (by omega)]
theorem begun_peek {t c : Int} {n : Nat} (k : Nat) (h1 : 1 ≤ t) (h2 : t ≤ 8) (h3 : 1 ≤ c) (hw : 21 + t + 3 * c ≤ n) (hk : k < n) : peek (begun t c n).l k = laidAt t c k := by
  obtain ⟨b1, b2, _, _⟩ := begun_nth (wd := n) h1 h2 h3 hw
  simp only [Int.toNat_natCast] at b1 b2
  rw [peek_at (by omega), b2 k hk]
theorem is_of {n : Int} (t c wd v : Int) (h : code t c wd v = n) (w : World) :
    Calls Try.prog 16 #[.agg #[.int .i64 t, .int .i64 c, .int .i64 wd, .int .i64 v]] w fun e w' => e = .returned (errv n) ∧ Fr [] w w' := h ▸ is_any t c wd v w
theorem code_cases (t c wd v : Int) : code t c wd v = 0 ∨ code t c wd v = 10 ∨ code t c wd v = 14 := by unfold code; split <;> (try split) <;> simp
theorem make_no (t c wd v n : Int) (hn : n = 10 ∨ n = 14) (h : code t c wd v = n) (w : World) :
    Calls Try.prog 6 #[.agg #[.int .i64 t, .int .i64 c, .int .i64 wd, .int .i64 v]] w fun e w' => e = .returned (.tuple #[.pointer none, .iface 62 (.int .i64 n)]) ∧ Fr [] w w' := by
  have H := Lib.hid (is_of t c wd v h)
  have e0 : errv n = .iface 62 (.int .i64 n) := by rw [errv, if_neg (by omega)]
  rw [e0] at H
  clear h hn e0
  have isE : Try.prog.isIface 29 = true := by kernel_rfl
  go_enter Try.func6, Try.ntmps6
  go_wp2_with fail
  refine (H.out _).mono ?_; rintro e w1 ⟨rfl, F1⟩
  have G := ((Fr.refl [] w).alloc _).trans F1
  clear F1 H
  go_wp2
  go_ret2
  exact ⟨rfl, G⟩
/-- How far the loop over the first words has come: those that are left are not laid yet. -/
def Lays (t c : Int) (w : World) (b r p q n m : Nat) (D : DataW Unit) (wr : World) : Prop := ∃ left cnt s, wr.ranges Try.prog 3 (plainElem (H := Unit) Try.prog 3) b r m D left cnt ∧ (∀ kl, left kl = true → Maps.has D kl = true) ∧
  Ar wr p q s ∧ s.l.length = n ∧ s.n = 0 ∧ s.a = ⟨0, 0, 0, 0, false⟩ ∧ (∀ i : Nat, i < n → nth s.l i = if left (.int .i64 i) = true then 0 else laidAt t c i) ∧ Fr [] w wr
/-- A pointer to an arena in new blocks, and no error. -/
def MadeOk (w : World) (s : St) (e : Ending) (w' : World) : Prop := ∃ p q, e = .returned (.tuple #[.pointer (some ⟨p, 0, none⟩), .nilIface]) ∧ w.heap.size ≤ p ∧ w.heap.size ≤ q ∧ Ar w' p q s ∧ Fr [] w w'
/-- What the map holds is what is laid. -/
theorem firsts_laid {t c k v : Int} {g : Int → Option Int} (hg : ∀ k, g k = if k = 2 then some (21 + t + 3 * c) else if k = 7 + t then some (-1) else if k = 9 + t then some (2 * (14 + t)) else none) :
    (g k = some v → v = laidAt t c k ∧ (k = 2 ∨ k = 7 + t ∨ k = 9 + t)) ∧ (g k = none → laidAt t c k = 0) := by
  rw [hg k, laidAt]
  by_cases e1 : k = 2
  · rw [if_pos e1, if_pos e1]; exact ⟨fun h => ⟨(Option.some.inj h).symm, .inl e1⟩, fun h => by cases h⟩
  · rw [if_neg e1, if_neg e1]
    by_cases e2 : k = 7 + t
    · rw [if_pos e2, if_pos e2]; exact ⟨fun h => ⟨(Option.some.inj h).symm, .inr (.inl e2)⟩, fun h => by cases h⟩
    · rw [if_neg e2, if_neg e2]
      by_cases e3 : k = 9 + t
      · rw [if_pos e3, if_pos e3]; exact ⟨fun h => ⟨(Option.some.inj h).symm, .inr (.inr e3)⟩, fun h => by cases h⟩
      · rw [if_neg e3, if_neg e3]; exact ⟨(fun h => by cases h), fun _ => rfl⟩
theorem lays_start {t c : Int} {w w5 w6 : World} {b p q n m : Nat} {D : DataW Unit} {g : Int → Option Int} (hD : Holds D g) (hg : ∀ k, g k = if k = 2 then some (21 + t + 3 * c) else if k = 7 + t then some (-1) else if k = 9 + t then some (2 * (14 + t)) else none)
    (h1 : w6.ranges Try.prog 3 (plainElem (H := Unit) Try.prog 3) b w5.heap.size m D (Maps.has D) (Maps.size D)) (h2 : w5.grownBy w6 none) (A : Ar w5 p q (St.fresh n)) (F : Fr [] w w5) : Lays t c w b w5.heap.size p q n m D w6 := by
  refine ⟨_, _, St.fresh n, h1, fun _ h => h, A.kept (Fr.grown h2) (by simp) (by simp), by simp [St.fresh], rfl, rfl, fun i hi => ?_, F.trans (Fr.grown h2)⟩
  rw [show nth (St.fresh n).l i = 0 by simp [nth, St.fresh, List.getD_eq_getElem?_getD, hi]]
  split
  · rfl
  · rename_i hh
    rw [(hD.2 i).1] at hh
    have : g i = none := by cases hgi : g i with | none => rfl | some u => rw [hgi] at hh; simp at hh
    exact ((firsts_laid (v := 0) hg).2 this).symm
theorem lays_end {t c : Int} {n p q : Nat} {s : St} {wr : World} {left : Lit → Bool} (h1 : 1 ≤ t) (h2 : t ≤ 8) (h3 : 1 ≤ c) (hw : 21 + t + 3 * c ≤ n) (hl : ∀ kl, left kl = false) (A : Ar wr p q s) (e1 : s.l.length = n) (e2 : s.n = 0) (e3 : s.a = ⟨0, 0, 0, 0, false⟩)
    (e4 : ∀ i : Nat, i < n → nth s.l i = if left (.int .i64 i) = true then 0 else laidAt t c i) : Ar wr p q (begun t c n) := by
  obtain ⟨b1, b2, b3, b4⟩ := begun_nth (wd := n) h1 h2 h3 hw
  simp only [Int.toNat_natCast] at b1 b2
  have : s = begun t c n := St.ext' (by rw [e1, b1]) (fun i hi => by rw [e4 i (by omega), b2 i (by omega), if_neg (by simp [hl])]) (by rw [e2, b3]) (by rw [e3, b4])
  exact this ▸ A
theorem same_int {a b : Int} : (Lit.int .i64 a).sameKey (.int .i64 b) = decide (a = b) := by
  by_cases h : a = b
  · subst h; simp [Lit.sameKey]
  · rw [Maps.sameKey_ne (fun e => h (by cases e; rfl))]; simp [h]
theorem lays_step {t c x v : Int} {w w1 w2 : World} {b r p q n m cnt1 : Nat} {D : DataW Unit} {g : Int → Option Int} {left : Lit → Bool} {s : St} (h1 : 1 ≤ t) (hw : 21 + t + 3 * c ≤ n) (h3 : 1 ≤ c) (hD : Holds D g)
    (hg : ∀ k, g k = if k = 2 then some (21 + t + 3 * c) else if k = 7 + t then some (-1) else if k = 9 + t then some (2 * (14 + t)) else none)
    (hlx : left (.int .i64 x) = true) (hhas : ∀ kl, left kl = true → Maps.has D kl = true) (hat : ∀ zd, D.atKey (.int .i64 x) zd = .lit (.int .i64 v))
    (hrg : w1.ranges Try.prog 3 (plainElem (H := Unit) Try.prog 3) b r m D (fun z => left z && !z.sameKey (.int .i64 x)) cnt1) (hq : q < b) (hq0 : w.heap.size ≤ q) (hqr : q < r)
    (A : Ar w2 p q (s.poke x v)) (F2 : Fr [q] w1 w2) (G1 : Fr [] w w1) (e1 : s.l.length = n) (e2 : s.n = 0) (e3 : s.a = ⟨0, 0, 0, 0, false⟩) (e4 : ∀ i : Nat, i < n → nth s.l i = if left (.int .i64 i) = true then 0 else laidAt t c i) : Lays t c w b r p q n m D w2 ∧ w2.rangeLeft b r = cnt1 := by
  have hgx : g x = some v ∧ v = laidAt t c x ∧ (x = 2 ∨ x = 7 + t ∨ x = 9 + t) := by
    have := hhas _ hlx
    rw [(hD.2 x).1] at this
    cases hgx : g x with
    | none => rw [hgx] at this; simp at this
    | some u =>
      have h := (hD.2 x).2 u hgx (.nil)
      rw [hat] at h
      cases h
      exact ⟨rfl, (firsts_laid hg).1 hgx⟩
  obtain ⟨_, hv, hx⟩ := hgx
  obtain ⟨k, rfl⟩ := Int.eq_ofNat_of_zero_le (show 0 ≤ x by omega)
  have hk : k < n := by omega
  have hrq : (some q : Option Nat) ≠ some b := fun e => Nat.ne_of_lt hq (Option.some.inj e)
  have hrg2 := hrg.kept (row := some q) ⟨F2.os, F2.tape, F2.output, F2.size, fun i hi hn => F2.block i hi (by simpa using fun e => hn (by rw [e]))⟩ (Ne.symm hrq) (fun e => Nat.ne_of_gt hqr (Option.some.inj e))
  refine ⟨⟨_, cnt1, s.poke k v, hrg2, fun kl h => hhas kl (by simp at h; exact h.1), A, by simp [St.poke, length_poke, e1], e2, e3, fun i hi => ?_, G1.own F2 (by simpa using hq0)⟩, hrg2.left_eq⟩
  simp only [St.poke]
  rw [nth_poke v (by omega), e4 i hi, same_int]
  by_cases hik : i = k
  · subst hik
    simp [hv]
  · have : ¬ ((i : Int) = (k : Int)) := by omega
    simp [hik, this]
set_option maxHeartbeats 1600000 in
theorem make_yes (t c wd v : Int) (h : code t c wd v = 0) (w : World) :
    Calls Try.prog 6 #[.agg #[.int .i64 t, .int .i64 c, .int .i64 wd, .int .i64 v]] w (MadeOk w (begun t c wd)) := by
  have hf : form t c wd v = true ∧ 21 + t + 3 * c ≤ wd := by
    unfold code at h; split at h
    · rename_i h1; split at h
      · rename_i h2; exact ⟨h1, h2⟩
      · cases h
    · cases h
  obtain ⟨t1, t2, c1, c2, v1, v2, w1, w2⟩ := form_iff.1 hf.1
  obtain ⟨n, rfl⟩ := Int.eq_ofNat_of_zero_le (show 0 ≤ wd by omega)
  have hw := hf.2
  have H := Lib.hid (is_of t c n v h)
  have HF := Lib.hid (firstWords_any t c n v t1 t2 (by omega) c2)
  clear h hf v1 v2
  have isE : Try.prog.isIface 29 = true := by kernel_rfl
  have e0 : errv 0 = .nilIface := rfl
  rw [e0] at H
  clear e0
  go_enter Try.func6, Try.ntmps6
  go_wp2_with fail
  refine (H.out _).mono ?_; rintro e w3 ⟨rfl, F3⟩
  obtain ⟨k0, k1, k2, k3⟩ := cells4 (F3.heap (Go.heap_alloc_new w (.cells #[.int .i64 t, .int .i64 c, .int .i64 n, .int .i64 v] 25)) (by simp))
  have G3 := ((Fr.refl [] w).alloc _).trans F3
  clear F3 H
  go_wp2_with fail
  refine (new_at n n (by omega) (by omega) (by omega) _).mono ?_; rintro e w4 ⟨p, q, rfl, hp, hq, A4, F4⟩
  have j0 := F4.cell k0 (by simp)
  have j1 := F4.cell k1 (by simp)
  have j2 := F4.cell k2 (by simp)
  have j3 := F4.cell k3 (by simp)
  have G4 := G3.trans F4
  have hp' := Nat.le_trans G3.size hp
  have hq' := Nat.le_trans G3.size hq
  clear F4 G3 k0 k1 k2 k3 hp hq
  go_wp2_with fail
  refine (HF.out _).mono ?_; rintro e w5 ⟨b, m, g, rfl, hb, hm, M5, F5, hg⟩
  have A5 := A4.kept F5 (by simp) (by simp)
  have hpb := Nat.lt_of_lt_of_le A4.lt.1 hb
  have hqb := Nat.lt_of_lt_of_le A4.lt.2 hb
  have G5 := G4.trans F5
  have hb' := Nat.le_trans G4.size hb
  clear F5 G4 j0 j1 j2 j3 HF A4 hb
  obtain ⟨D, hown, hD⟩ := M5
  go_wp2_with (at_range; refine wpList_range_own _ rfl _ 44 rfl 3 3 intKey Try.underlying44 _ b m _ rfl hown ?_; intro w6 hrg6 hg6 hs6)
  have L := lays_start hD hg hrg6 hg6 A5 G5
  have hqr : q < w5.heap.size := A5.lt.2
  have hbr : b < w5.heap.size := hown.lt
  have hbw : w.heap.size ≤ w5.heap.size := G5.size
  generalize w5.heap.size = r at L hqr hbr hbw ⊢
  have HL := Lib.hid L
  have Hg := Lib.hid hg
  clear L hrg6 hg6 hs6 hown G5 A5 hg
  go_frame
  go_loopw [6] (fun _ wr => Lays t c w b r p q n m D wr) (fun _ wr => wr.rangeLeft b r)
  case atStart => exact HL.out
  case round =>
    obtain ⟨left, cnt, s, hrg, hhas, A, e1, e2, e3, e4, F⟩ := hrel
    go_wp2_with (at_next; refine wpList_next_ranges_ii _ rfl _ rfl 3 3 .i64 .i64 intKey Try.underlying3 Try.underlying3 b r m _ _ _ rfl hrg ?_ ?_)
    · intro _ hl0
      have A' := lays_end t1 t2 (by omega) hw hl0 A e1 e2 e3 e4
      clear e1 e2 e3 e4 A hl0
      go_wp2
      go_ret2
      exact ⟨p, q, rfl, hp', hq', A', F⟩
    · intro x u wn cnt1 hwx hwc hlx hat hrg1 hlt hg1 hs1 hen
      have Fn : Fr [r] _ wn := Fr.grownAt hg1
      have An := A.kept Fn (by simp; omega) (by simp; omega)
      have Gn := F.own Fn (by simpa using hbw)
      have K := Lib.hid (And.intro hlx (And.intro hat (And.intro hhas (And.intro e1 (And.intro e2 (And.intro e3 e4))))))
      have Hr := Lib.hid hrg
      have Hr1 := Lib.hid hrg1
      clear hlx hat hhas e1 e2 e3 e4 Fn A F hg1 hs1 hrg hrg1
      go_wp2_with (go_at_call 7; refine (poke_any _ p q s x u An).mono ?_; rintro e wz ⟨rfl, Az, Fz⟩)
      obtain ⟨hlx, hat, hhas, e1, e2, e3, e4⟩ := K.out
      have L := lays_step t1 hw (by omega) hD Hg.out hlx hhas hat Hr1.out hqb hq' hqr Az Fz Gn e1 e2 e3 e4
      have L1 := Lib.hid L.1
      have L2 := Lib.hid L.2
      clear L hlx hat hhas e1 e2 e3 e4
      go_roundw
      case rel => exact L1.out
      case measure => rw [L2.out, Hr.out.left_eq]; exact hlt
end Go.Proofs.Ytfchbbhopfganaa.Pl
