/- The walk of OpLimits. -/
import Derived.Test.YtedenkghacbdeaaOwn4
namespace Go.Proofs.Ytedenkghacbdeaa.Og
open Go.RowKit Go.Maps Go.Proofs.Ytedenkghacbdeaa.Ar
set_option linter.unusedVariables false
set_option linter.unusedSimpArgs false
theorem own1' {p : Nat} {a b c : World} (h : Fr [] a b) (k : Fr [p] b c) (hp : a.heap.size ≤ p) : Fr [] a c := h.own k (fun i hi => by rw [List.mem_singleton.1 hi]; exact hp)
theorem errv_of {n : Int} {x : Int} (h : x = n) (hn : n ≠ 0) : Pl.errv x = .iface 37 (.int .i64 n) := by rw [h]; exact errv_some hn
theorem errv_of0 {x : Int} (h : x = 0) : Pl.errv x = .nilIface := by rw [h]; rfl
theorem sc_picks (n : Nat) : scode 2 4 200 1000 [] (List.replicate n 0) = if 20000 < n then 12 else 0 := by
  rw [scode, if_pos (by decide +kernel)]
  unfold large
  simp
theorem sc_ops (n : Nat) : scode 2 4 200 1000 [[], List.replicate n (3, 0, 0, 0)] [] = if 1000 < n then 12 else 0 := by
  rw [scode, if_pos (by decide +kernel)]
  have h1 : large 2 [[], List.replicate n (3, 0, 0, 0)] [] = decide (1000 < n) := by unfold large long; simp
  have h2 : ([[], List.replicate n (3, 0, 0, 0)] : List (List O)).all fitR = true := by
    rw [List.all_eq_true]; intro r hr
    simp only [List.mem_cons, List.not_mem_nil, or_false] at hr
    rcases hr with rfl | rfl
    · rfl
    · unfold fitR; rw [List.all_eq_true]; intro o ho; rw [List.eq_of_mem_replicate ho]; decide +kernel
  rw [h1, h2]
  by_cases h : 1000 < n <;> simp [h]
theorem two_rows {w : World} {b : Nat} {T : TypeId} {x y : Value} {os os' : List O} (h : w.heap[b]? = some (.cells #[x, y] T (0, 0))) (hr : OpRow w x os) (hr' : OpRow w y os') :
    OpRows w (.slice (some ⟨b, 0, none⟩) 2 2) [os, os'] := by
  refine ⟨some ⟨b, 0, none⟩, 2, fun i => if i = 0 then x else y, rfl, by simp [maxLen], .inr ⟨b, 0, rfl, (Array.getElem?_eq_some_iff.1 h).1, fun i hi => ?_⟩, fun i hi => ?_⟩
  · have hi' : i = 0 ∨ i = 1 := by simp at hi; omega
    rw [cell_of_row _ _ _ _ _ _ h]
    rcases hi' with rfl | rfl <;> rfl
  · have hi' : i = 0 ∨ i = 1 := by simp at hi; omega
    rcases hi' with rfl | rfl
    · exact hr
    · exact hr'
/-- Where the loop that appends ops stands. -/
def LimAt (w : World) (bs N : Nat) (v i : Value) (wr : World) : Prop := ∃ k : Nat, k ≤ N ∧ i = .int .i64 k ∧ wr.ownsRow (bs + 1) 40 4 v k ((List.replicate k ((3, 0, 0, 0) : O)).flatMap cellsO) ∧
  wr.heap[bs]? = some (.cells #[.int .i64 2, .int .i64 4, .int .i64 200, .int .i64 1000, .slice none 0 0, .slice none 0 0, .slice none 0 0] 34 (0, 0)) ∧ Fr [] w wr ∧ bs + 1 ≤ wr.heap.size
theorem LimAt.step {w wr w' : World} {bs k : Nat} {v v' : Value} (N : Nat) (hk : k < N) (hw : w.heap.size ≤ bs) (hrow : wr.ownsRow (bs + 1) 40 4 v k ((List.replicate k ((3, 0, 0, 0) : O)).flatMap cellsO))
    (hb : wr.heap[bs]? = some (.cells #[.int .i64 2, .int .i64 4, .int .i64 200, .int .i64 1000, .slice none 0 0, .slice none 0 0, .slice none 0 0] 34 (0, 0))) (G : Fr [] w wr) (hs : bs + 1 ≤ wr.heap.size)
    (hr : w'.ownsRow (bs + 1) 40 4 v' (k + 1) ((List.replicate k ((3, 0, 0, 0) : O)).flatMap cellsO ++ [.int .i64 3, .int .i64 0, .int .i64 0, .int .i64 0])) (f : Fr v.ownBlock.toList (wr.alloc (.cells #[.int .i64 3, .int .i64 0, .int .i64 0, .int .i64 0] 40)) w') :
    LimAt w bs N v' (.int .i64 ((k + 1 : Nat) : Int)) w' := by
  have f0 := (Fr.refl [] wr).alloc (.cells #[.int .i64 3, .int .i64 0, .int .i64 0, .int .i64 0] 40)
  refine ⟨k + 1, hk, rfl, ?_, ?_, ?_, ?_⟩
  · rw [List.replicate_succ', List.flatMap_append]; exact hr
  · exact f.heap (f0.heap hb (by simp)) (row_ne hrow hb (by decide))
  · exact (G.trans f0).own f (fun i hi => Nat.le_trans hw (Nat.le_of_succ_le (row_base hrow i hi)))
  · exact Nat.le_trans (Nat.le_trans hs f0.size) f.size
theorem LimAt.done {w wr : World} {bs k : Nat} {v : Value} (hw : w.heap.size ≤ bs) (hrow : wr.ownsRow (bs + 1) 40 4 v k ((List.replicate k ((3, 0, 0, 0) : O)).flatMap cellsO))
    (hb : wr.heap[bs]? = some (.cells #[.int .i64 2, .int .i64 4, .int .i64 200, .int .i64 1000, .slice none 0 0, .slice none 0 0, .slice none 0 0] 34 (0, 0))) (G : Fr [] w wr) (hs : bs + 1 ≤ wr.heap.size) :
    (wr.alloc (.cells #[.slice none 0 0, v] 38)).heap[bs]? = some (.cells #[.int .i64 2, .int .i64 4, .int .i64 200, .int .i64 1000, .slice none 0 0, .slice none 0 0, .slice none 0 0] 34 (0, 0)) ∧
    (∀ j, (wr.alloc (.cells #[.slice none 0 0, v] 38)).frozen? ⟨bs, j, none⟩ = false) ∧
    OpRows ((wr.alloc (.cells #[.slice none 0 0, v] 38)).setCell ⟨bs, 4, none⟩ (.slice (some ⟨wr.heap.size, 0, none⟩) 2 2)) (.slice (some ⟨wr.heap.size, 0, none⟩) 2 2) [[], List.replicate k (3, 0, 0, 0)] ∧
    Fr [] w ((wr.alloc (.cells #[.slice none 0 0, v] 38)).setCell ⟨bs, 4, none⟩ (.slice (some ⟨wr.heap.size, 0, none⟩) 2 2)) := by
  have f0 := (Fr.refl [] wr).alloc (.cells #[.slice none 0 0, v] 38)
  have hb4 := heap_up f0 hb
  have fs : Fr [bs] (wr.alloc (.cells #[.slice none 0 0, v] 38)) ((wr.alloc (.cells #[.slice none 0 0, v] 38)).setCell ⟨bs, 4, none⟩ (.slice (some ⟨wr.heap.size, 0, none⟩) 2 2)) := Fr.setCell _ (List.mem_singleton.2 rfl)
  refine ⟨hb4, fun j => frozen_of_row _ _ _ _ _ hb4, ?_, own1' (G.trans f0) fs hw⟩
  have hr2 := row_fr (row_keeps hrow f0) fs (fun g hg => by
    have := row_base hrow g (by simpa using hg)
    simp; omega)
  refine two_rows (fs.heap (Go.heap_alloc_new wr _) (by simp; omega)) (nil_row _) (own_ops (by simp) (fun o ho => by rw [List.eq_of_mem_replicate ho]; exact (by decide : (Lit.int .i64 3).wf = true)) hr2)
theorem own_none {w : World} {B n : Nat} {v : Value} (h : w.ownsRow B 38 1 v n (List.replicate n (.slice none 0 0))) : OpRows w v (List.replicate n []) :=
  own_rows List.length_replicate h (fun i hi => by
    have hi' : i < n := by simpa using hi
    have e1 : (List.replicate n (Value.slice none 0 0)).getD i undef = .slice none 0 0 := by simp [List.getD_eq_getElem?_getD, List.getElem?_replicate, hi']
    have e2 : nthR (List.replicate n []) i = [] := by unfold nthR; simp [List.getD_eq_getElem?_getD, List.getElem?_replicate, hi']
    rw [e1, e2]
    exact nil_row _)
set_option maxRecDepth 100000 in
set_option maxHeartbeats 8000000 in
theorem limits_true (k : Int) (o : Bool) (w : World) (hk : 0 ≤ k ∧ k < 256) :
    Calls Try.prog 4 #[.int .u8 k, .bool o] w fun e w' => e = .returned (.bool true) ∧ Fr [] w w' := by
  obtain ⟨iR, eR, zR, sR, bR⟩ := info_of rowInfo4
  obtain ⟨iI, eI, zI, sI, bI⟩ := info_of intInfo4
  have iE := Er.isE
  go_enter Try.func4, Try.ntmps4
  go_wp2_with fail
  refine (known_true _).mono ?_; rintro e w1 ⟨rfl, F1⟩
  have hk6 : k % 6 = 0 ∨ k % 6 = 1 ∨ k % 6 = 2 ∨ k % 6 = 3 ∨ k % 6 = 4 ∨ k % 6 = 5 := by omega
  cases o with
  | true =>
    go_wp2_with fail
    refine (Pl.conf_any 2 4 200 _).mono ?_; rintro e w2 ⟨rfl, F2⟩
    have G2 := F1.trans F2
    have hb2 := Go.heap_alloc_new w2 (.cells #[.int .i64 2, .int .i64 4, .int .i64 200, .int .i64 1000, .slice none 0 0, .slice none 0 0, .slice none 0 0] 34)
    have G3 := G2.alloc (.cells #[.int .i64 2, .int .i64 4, .int .i64 200, .int .i64 1000, .slice none 0 0, .slice none 0 0, .slice none 0 0] 34)
    have hsz : (w2.alloc (.cells #[.int .i64 2, .int .i64 4, .int .i64 200, .int .i64 1000, .slice none 0 0, .slice none 0 0, .slice none 0 0] 34)).heap.size = w2.heap.size + 1 := size_alloc _ _
    have hw2 : w.heap.size ≤ w2.heap.size := G2.size
    clear F1 F2
    rcases hk6 with h | h | h | h | h | h
    · go_wp2_with (at_make; refine wpList_make_full _ rfl _ _ 31 rfl 0 38 iR (.slice none 0 0) 1 Try.underlying31 eR zR sR _ _ _ _ 3 rfl rfl rfl rfl (by rw [bR]; decide) (by decide) (Nat.zero_le _) ?_; intro wA hown hg; have hb3 := heap_up (Fr.grown hg) hb2; obtain ⟨c0, c1, c2, c3, c4, c5, c6⟩ := cells7 hb3; have z0 : ∀ j, wA.frozen? ⟨w2.heap.size, j, none⟩ = false := fun j => frozen_of_row _ _ _ _ _ hb3; have G4 := G3.trans (Fr.grown hg); clear hg hb2 hb3 G3)
      rw [hsz, show (Value.slice none 0 0).cells = #[.slice none 0 0] from rfl, toList_madeCells_one, Nat.mul_one] at hown
      have FS : Fr [w2.heap.size] wA (wA.setCell ⟨w2.heap.size, 4, none⟩ (.slice (some ⟨w2.heap.size + 1, 0, none⟩) 3 3)) := Fr.setCell _ (List.mem_singleton.2 rfl)
      have hown2 := row_fr hown FS (fun g hg => by simp only [Value.ownBlock, Option.some.injEq] at hg; subst hg; simp)
      have hr := own_none hown2
      refine (script_any 2 4 200 1000 (List.replicate 3 []) [] [] _ _ ⟨_, _, _, rfl, hr, nil_ints _, nil_ints _⟩).mono ?_; rintro e wS ⟨rfl, F5⟩
      rw [errv_of (n := 12) (show scode 2 4 200 1000 (List.replicate 3 []) [] = 12 by decide +kernel) (by decide)]
      clear c0 c1 c2 c3 c4 c5 c6 z0 hown hown2 hr
      go_wp2_with fail
      refine (Er.is_same 12 _).mono ?_; rintro e w' ⟨rfl, rfl⟩
      go_wp2
      go_ret
      exact ⟨rfl, (own1' G4 FS hw2).trans F5⟩
    · go_wp2_with (at_make; refine wpList_make_full _ rfl _ _ 32 rfl 0 3 iI (.int .i64 0) 1 Try.underlying32 eI zI sI _ _ _ _ 20001 rfl rfl rfl rfl (by rw [bI]; decide) (by decide) (Nat.zero_le _) ?_; intro wA hown hg; have hb3 := heap_up (Fr.grown hg) hb2; obtain ⟨c0, c1, c2, c3, c4, c5, c6⟩ := cells7 hb3; have z0 : ∀ j, wA.frozen? ⟨w2.heap.size, j, none⟩ = false := fun j => frozen_of_row _ _ _ _ _ hb3; have G4 := G3.trans (Fr.grown hg); clear hg hb2 hb3 G3)
      rw [hsz, show (Value.int .i64 0).cells = #[.int .i64 0] from rfl, toList_madeCells_one, Nat.mul_one] at hown
      have FS : Fr [w2.heap.size] wA (wA.setCell ⟨w2.heap.size, 5, none⟩ (.slice (some ⟨w2.heap.size + 1, 0, none⟩) 20001 20001)) := Fr.setCell _ (List.mem_singleton.2 rfl)
      have hown2 := row_fr hown FS (fun g hg => by simp only [Value.ownBlock, Option.some.injEq] at hg; subst hg; simp)
      rw [← List.map_replicate (f := Value.int .i64) (a := 0)] at hown2
      have hr := own_ints List.length_replicate (fun z hz => by rw [List.eq_of_mem_replicate hz]; decide) hown2
      refine (script_any 2 4 200 1000 [] (List.replicate 20001 0) [] _ _ ⟨_, _, _, rfl, nil_rows _, hr, nil_ints _⟩).mono ?_; rintro e wS ⟨rfl, F5⟩
      rw [errv_of (n := 12) ((sc_picks 20001).trans (if_pos (by decide))) (by decide)]
      clear c0 c1 c2 c3 c4 c5 c6 z0 hown hown2 hr
      go_wp2_with fail
      refine (Er.is_same 12 _).mono ?_; rintro e w' ⟨rfl, rfl⟩
      go_wp2
      go_ret
      exact ⟨rfl, (own1' G4 FS hw2).trans F5⟩
    · go_wp2_with fail
      have hrow0 : (w2.alloc (.cells #[.int .i64 2, .int .i64 4, .int .i64 200, .int .i64 1000, .slice none 0 0, .slice none 0 0, .slice none 0 0] 34)).ownsRow (w2.heap.size + 1) 40 4 (.slice none 0 0) 0 [] := ⟨rfl, .inl ⟨rfl, rfl⟩⟩
      have hs0 : w2.heap.size + 1 ≤ (w2.alloc (.cells #[.int .i64 2, .int .i64 4, .int .i64 200, .int .i64 1000, .slice none 0 0, .slice none 0 0, .slice none 0 0] 34)).heap.size := Nat.le_of_eq hsz.symm
      generalize (w2.alloc (.cells #[.int .i64 2, .int .i64 4, .int .i64 200, .int .i64 1000, .slice none 0 0, .slice none 0 0, .slice none 0 0] 34)) = w3 at *
      clear hsz
      generalize w2.heap.size = bs at *
      go_loopw [8, 9] (fun v i wr => LimAt w bs 1001 v i wr) (fun _ i _ => 1001 - (intOf i).toNat)
      case atStart => exact ⟨0, Nat.zero_le _, rfl, hrow0, hb2, G3, hs0⟩
      case round =>
        obtain ⟨m, hm, rfl, hrow, hb, G, hs⟩ := hrel
        clear hrow0 hb2 G3 hs0
        by_cases hlt : m < 1001
        · go_wp2_with (at_builtin; refine wpList_app rfl _ _ 38 rfl Try.underlying38 opInfo4 rfl (by decide) _ _ _ rfl (hrow.alloc _) rfl (Go.heap_alloc_new _ _) rfl (by decide) (by unfold maxLen; omega) (by omega) (by rw [size_alloc]; omega) ?_; intro v' w' hr f)
          have K1 := LimAt.step 1001 hlt hw2 hrow hb G hs hr f
          clear hr f hrow hb G hs
          go_roundw
          case rel => exact K1
          case measure => simp [intOf]; omega
        · obtain rfl : m = 1001 := by omega
          obtain ⟨a8, cap8, rfl, -, -⟩ := own_cell hrow
          obtain ⟨h7, hf7, hR, F6⟩ := LimAt.done hw2 hrow hb G hs
          obtain ⟨c0, c1, c2, c3, c4, c5, c6⟩ := cells7 h7
          clear hrow hb G hs h7
          go_wp2_with fail
          refine (script_any 2 4 200 1000 [[], List.replicate 1001 (3, 0, 0, 0)] [] [] _ _ ⟨_, _, _, rfl, hR, nil_ints _, nil_ints _⟩).mono ?_; rintro e wS ⟨rfl, F5⟩
          rw [errv_of (n := 12) ((sc_ops 1001).trans (if_pos (by decide))) (by decide)]
          clear c0 c1 c2 c3 c4 c5 c6 hf7 hR
          go_wp2_with fail
          refine (Er.is_same 12 _).mono ?_; rintro e w' ⟨rfl, rfl⟩
          go_wp2
          go_ret
          exact ⟨rfl, F6.trans F5⟩
    · clear hb2 G3 hsz
      have z1 : (w2.alloc (.cells #[.int .i64 2, .int .i64 4, .int .i64 200, .int .i64 1000, .slice (some ⟨w2.heap.size + 1 + 1, 0, none⟩) 1 1, .slice none 0 0, .slice none 0 0] 34)).heap.size = w2.heap.size + 1 := size_alloc _ _
      have A1 := new_at (b := w2.heap.size + 1) z1 ((Fr.refl [] ((w2.alloc (.cells #[.int .i64 2, .int .i64 4, .int .i64 200, .int .i64 1000, .slice (some ⟨w2.heap.size + 1 + 1, 0, none⟩) 1 1, .slice none 0 0, .slice none 0 0] 34)).alloc (.cells #[.int .i64 1, .int .i64 64, .int .i64 1, .int .i64 0] 40))).alloc (.cells #[.slice (some ⟨w2.heap.size + 1, 0, none⟩) 1 1] 38))
      have A2 := new_at (b := w2.heap.size + 1 + 1) ((size_alloc _ _).trans (congrArg (· + 1) z1)) (Fr.refl [] (((w2.alloc (.cells #[.int .i64 2, .int .i64 4, .int .i64 200, .int .i64 1000, .slice (some ⟨w2.heap.size + 1 + 1, 0, none⟩) 1 1, .slice none 0 0, .slice none 0 0] 34)).alloc (.cells #[.int .i64 1, .int .i64 64, .int .i64 1, .int .i64 0] 40)).alloc (.cells #[.slice (some ⟨w2.heap.size + 1, 0, none⟩) 1 1] 38)))
      have S := one_script A1 (by decide) A2
      have G5 := ((G2.alloc (.cells #[.int .i64 2, .int .i64 4, .int .i64 200, .int .i64 1000, .slice (some ⟨w2.heap.size + 1 + 1, 0, none⟩) 1 1, .slice none 0 0, .slice none 0 0] 34)).alloc (.cells #[.int .i64 1, .int .i64 64, .int .i64 1, .int .i64 0] 40)).alloc (.cells #[.slice (some ⟨w2.heap.size + 1, 0, none⟩) 1 1] 38)
      clear z1 A1 A2
      go_wp2_with fail
      refine (script_any _ _ _ _ _ _ _ _ _ S).mono ?_; rintro e wS ⟨rfl, F5⟩
      rw [errv_of (n := 10) (show scode 2 4 200 1000 [[(1, 64, 1, 0)]] [] = 10 by decide +kernel) (by decide)]
      clear S
      go_wp2_with fail
      refine (Er.is_same 10 _).mono ?_; rintro e w' ⟨rfl, rfl⟩
      go_wp2
      go_ret
      exact ⟨rfl, G5.trans F5⟩
    · clear hb2 G3 hsz
      have z1 : (w2.alloc (.cells #[.int .i64 2, .int .i64 4, .int .i64 200, .int .i64 1000, .slice (some ⟨w2.heap.size + 1 + 1, 0, none⟩) 1 1, .slice none 0 0, .slice none 0 0] 34)).heap.size = w2.heap.size + 1 := size_alloc _ _
      have A1 := new_at (b := w2.heap.size + 1) z1 ((Fr.refl [] ((w2.alloc (.cells #[.int .i64 2, .int .i64 4, .int .i64 200, .int .i64 1000, .slice (some ⟨w2.heap.size + 1 + 1, 0, none⟩) 1 1, .slice none 0 0, .slice none 0 0] 34)).alloc (.cells #[.int .i64 1, .int .i64 0, .int .i64 1048577, .int .i64 0] 40))).alloc (.cells #[.slice (some ⟨w2.heap.size + 1, 0, none⟩) 1 1] 38))
      have A2 := new_at (b := w2.heap.size + 1 + 1) ((size_alloc _ _).trans (congrArg (· + 1) z1)) (Fr.refl [] (((w2.alloc (.cells #[.int .i64 2, .int .i64 4, .int .i64 200, .int .i64 1000, .slice (some ⟨w2.heap.size + 1 + 1, 0, none⟩) 1 1, .slice none 0 0, .slice none 0 0] 34)).alloc (.cells #[.int .i64 1, .int .i64 0, .int .i64 1048577, .int .i64 0] 40)).alloc (.cells #[.slice (some ⟨w2.heap.size + 1, 0, none⟩) 1 1] 38)))
      have S := one_script A1 (by decide) A2
      have G5 := ((G2.alloc (.cells #[.int .i64 2, .int .i64 4, .int .i64 200, .int .i64 1000, .slice (some ⟨w2.heap.size + 1 + 1, 0, none⟩) 1 1, .slice none 0 0, .slice none 0 0] 34)).alloc (.cells #[.int .i64 1, .int .i64 0, .int .i64 1048577, .int .i64 0] 40)).alloc (.cells #[.slice (some ⟨w2.heap.size + 1, 0, none⟩) 1 1] 38)
      clear z1 A1 A2
      go_wp2_with fail
      refine (script_any _ _ _ _ _ _ _ _ _ S).mono ?_; rintro e wS ⟨rfl, F5⟩
      rw [errv_of (n := 10) (show scode 2 4 200 1000 [[(1, 0, 1048577, 0)]] [] = 10 by decide +kernel) (by decide)]
      clear S
      go_wp2_with fail
      refine (Er.is_same 10 _).mono ?_; rintro e w' ⟨rfl, rfl⟩
      go_wp2
      go_ret
      exact ⟨rfl, G5.trans F5⟩
    · clear hb2 G3 hsz
      have z1 : (w2.alloc (.cells #[.int .i64 2, .int .i64 4, .int .i64 200, .int .i64 1000, .slice (some ⟨w2.heap.size + 1 + 1, 0, none⟩) 1 1, .slice none 0 0, .slice none 0 0] 34)).heap.size = w2.heap.size + 1 := size_alloc _ _
      have A1 := new_at (b := w2.heap.size + 1) z1 ((Fr.refl [] ((w2.alloc (.cells #[.int .i64 2, .int .i64 4, .int .i64 200, .int .i64 1000, .slice (some ⟨w2.heap.size + 1 + 1, 0, none⟩) 1 1, .slice none 0 0, .slice none 0 0] 34)).alloc (.cells #[.int .i64 4, .int .i64 9, .int .i64 0, .int .i64 64] 40))).alloc (.cells #[.slice (some ⟨w2.heap.size + 1, 0, none⟩) 1 1] 38))
      have A2 := new_at (b := w2.heap.size + 1 + 1) ((size_alloc _ _).trans (congrArg (· + 1) z1)) (Fr.refl [] (((w2.alloc (.cells #[.int .i64 2, .int .i64 4, .int .i64 200, .int .i64 1000, .slice (some ⟨w2.heap.size + 1 + 1, 0, none⟩) 1 1, .slice none 0 0, .slice none 0 0] 34)).alloc (.cells #[.int .i64 4, .int .i64 9, .int .i64 0, .int .i64 64] 40)).alloc (.cells #[.slice (some ⟨w2.heap.size + 1, 0, none⟩) 1 1] 38)))
      have S := one_script A1 (by decide) A2
      have G5 := ((G2.alloc (.cells #[.int .i64 2, .int .i64 4, .int .i64 200, .int .i64 1000, .slice (some ⟨w2.heap.size + 1 + 1, 0, none⟩) 1 1, .slice none 0 0, .slice none 0 0] 34)).alloc (.cells #[.int .i64 4, .int .i64 9, .int .i64 0, .int .i64 64] 40)).alloc (.cells #[.slice (some ⟨w2.heap.size + 1, 0, none⟩) 1 1] 38)
      clear z1 A1 A2
      go_wp2_with fail
      refine (script_any _ _ _ _ _ _ _ _ _ S).mono ?_; rintro e wS ⟨rfl, F5⟩
      rw [errv_of (n := 10) (show scode 2 4 200 1000 [[(4, 9, 0, 64)]] [] = 10 by decide +kernel) (by decide)]
      clear S
      go_wp2_with fail
      refine (Er.is_same 10 _).mono ?_; rintro e w' ⟨rfl, rfl⟩
      go_wp2
      go_ret
      exact ⟨rfl, G5.trans F5⟩
  | false =>
    go_wp2_with fail
    refine (Pl.conf_any 2 4 200 _).mono ?_; rintro e w2 ⟨rfl, F2⟩
    have G2 := F1.trans F2
    have hb2 := Go.heap_alloc_new w2 (.cells #[.int .i64 2, .int .i64 4, .int .i64 200, .int .i64 1000, .slice none 0 0, .slice none 0 0, .slice none 0 0] 34)
    have G3 := G2.alloc (.cells #[.int .i64 2, .int .i64 4, .int .i64 200, .int .i64 1000, .slice none 0 0, .slice none 0 0, .slice none 0 0] 34)
    have hsz : (w2.alloc (.cells #[.int .i64 2, .int .i64 4, .int .i64 200, .int .i64 1000, .slice none 0 0, .slice none 0 0, .slice none 0 0] 34)).heap.size = w2.heap.size + 1 := size_alloc _ _
    have hw2 : w.heap.size ≤ w2.heap.size := G2.size
    clear F1 F2
    rcases hk6 with h | h | h | h | h | h
    · go_wp2_with (at_make; refine wpList_make_full _ rfl _ _ 31 rfl 0 38 iR (.slice none 0 0) 1 Try.underlying31 eR zR sR _ _ _ _ 2 rfl rfl rfl rfl (by rw [bR]; decide) (by decide) (Nat.zero_le _) ?_; intro wA hown hg; have hb3 := heap_up (Fr.grown hg) hb2; obtain ⟨c0, c1, c2, c3, c4, c5, c6⟩ := cells7 hb3; have z0 : ∀ j, wA.frozen? ⟨w2.heap.size, j, none⟩ = false := fun j => frozen_of_row _ _ _ _ _ hb3; have G4 := G3.trans (Fr.grown hg); clear hg hb2 hb3 G3)
      rw [hsz, show (Value.slice none 0 0).cells = #[.slice none 0 0] from rfl, toList_madeCells_one, Nat.mul_one] at hown
      have FS : Fr [w2.heap.size] wA (wA.setCell ⟨w2.heap.size, 4, none⟩ (.slice (some ⟨w2.heap.size + 1, 0, none⟩) 2 2)) := Fr.setCell _ (List.mem_singleton.2 rfl)
      have hown2 := row_fr hown FS (fun g hg => by simp only [Value.ownBlock, Option.some.injEq] at hg; subst hg; simp)
      have hr := own_none hown2
      refine (script_any 2 4 200 1000 (List.replicate 2 []) [] [] _ _ ⟨_, _, _, rfl, hr, nil_ints _, nil_ints _⟩).mono ?_; rintro e wS ⟨rfl, F5⟩
      rw [errv_of0 (show scode 2 4 200 1000 (List.replicate 2 []) [] = 0 by decide +kernel)]
      clear c0 c1 c2 c3 c4 c5 c6 z0 hown hown2 hr
      go_wp2
      go_ret
      exact ⟨rfl, (own1' G4 FS hw2).trans F5⟩
    · go_wp2_with (at_make; refine wpList_make_full _ rfl _ _ 32 rfl 0 3 iI (.int .i64 0) 1 Try.underlying32 eI zI sI _ _ _ _ 20000 rfl rfl rfl rfl (by rw [bI]; decide) (by decide) (Nat.zero_le _) ?_; intro wA hown hg; have hb3 := heap_up (Fr.grown hg) hb2; obtain ⟨c0, c1, c2, c3, c4, c5, c6⟩ := cells7 hb3; have z0 : ∀ j, wA.frozen? ⟨w2.heap.size, j, none⟩ = false := fun j => frozen_of_row _ _ _ _ _ hb3; have G4 := G3.trans (Fr.grown hg); clear hg hb2 hb3 G3)
      rw [hsz, show (Value.int .i64 0).cells = #[.int .i64 0] from rfl, toList_madeCells_one, Nat.mul_one] at hown
      have FS : Fr [w2.heap.size] wA (wA.setCell ⟨w2.heap.size, 5, none⟩ (.slice (some ⟨w2.heap.size + 1, 0, none⟩) 20000 20000)) := Fr.setCell _ (List.mem_singleton.2 rfl)
      have hown2 := row_fr hown FS (fun g hg => by simp only [Value.ownBlock, Option.some.injEq] at hg; subst hg; simp)
      rw [← List.map_replicate (f := Value.int .i64) (a := 0)] at hown2
      have hr := own_ints List.length_replicate (fun z hz => by rw [List.eq_of_mem_replicate hz]; decide) hown2
      refine (script_any 2 4 200 1000 [] (List.replicate 20000 0) [] _ _ ⟨_, _, _, rfl, nil_rows _, hr, nil_ints _⟩).mono ?_; rintro e wS ⟨rfl, F5⟩
      rw [errv_of0 ((sc_picks 20000).trans (if_neg (by decide)))]
      clear c0 c1 c2 c3 c4 c5 c6 z0 hown hown2 hr
      go_wp2
      go_ret
      exact ⟨rfl, (own1' G4 FS hw2).trans F5⟩
    · go_wp2_with fail
      have hrow0 : (w2.alloc (.cells #[.int .i64 2, .int .i64 4, .int .i64 200, .int .i64 1000, .slice none 0 0, .slice none 0 0, .slice none 0 0] 34)).ownsRow (w2.heap.size + 1) 40 4 (.slice none 0 0) 0 [] := ⟨rfl, .inl ⟨rfl, rfl⟩⟩
      have hs0 : w2.heap.size + 1 ≤ (w2.alloc (.cells #[.int .i64 2, .int .i64 4, .int .i64 200, .int .i64 1000, .slice none 0 0, .slice none 0 0, .slice none 0 0] 34)).heap.size := Nat.le_of_eq hsz.symm
      generalize (w2.alloc (.cells #[.int .i64 2, .int .i64 4, .int .i64 200, .int .i64 1000, .slice none 0 0, .slice none 0 0, .slice none 0 0] 34)) = w3 at *
      clear hsz
      generalize w2.heap.size = bs at *
      go_loopw [8, 9] (fun v i wr => LimAt w bs 1000 v i wr) (fun _ i _ => 1000 - (intOf i).toNat)
      case atStart => exact ⟨0, Nat.zero_le _, rfl, hrow0, hb2, G3, hs0⟩
      case round =>
        obtain ⟨m, hm, rfl, hrow, hb, G, hs⟩ := hrel
        clear hrow0 hb2 G3 hs0
        by_cases hlt : m < 1000
        · go_wp2_with (at_builtin; refine wpList_app rfl _ _ 38 rfl Try.underlying38 opInfo4 rfl (by decide) _ _ _ rfl (hrow.alloc _) rfl (Go.heap_alloc_new _ _) rfl (by decide) (by unfold maxLen; omega) (by omega) (by rw [size_alloc]; omega) ?_; intro v' w' hr f)
          have K1 := LimAt.step 1000 hlt hw2 hrow hb G hs hr f
          clear hr f hrow hb G hs
          go_roundw
          case rel => exact K1
          case measure => simp [intOf]; omega
        · obtain rfl : m = 1000 := by omega
          obtain ⟨a8, cap8, rfl, -, -⟩ := own_cell hrow
          obtain ⟨h7, hf7, hR, F6⟩ := LimAt.done hw2 hrow hb G hs
          obtain ⟨c0, c1, c2, c3, c4, c5, c6⟩ := cells7 h7
          clear hrow hb G hs h7
          go_wp2_with fail
          refine (script_any 2 4 200 1000 [[], List.replicate 1000 (3, 0, 0, 0)] [] [] _ _ ⟨_, _, _, rfl, hR, nil_ints _, nil_ints _⟩).mono ?_; rintro e wS ⟨rfl, F5⟩
          rw [errv_of0 ((sc_ops 1000).trans (if_neg (by decide)))]
          clear c0 c1 c2 c3 c4 c5 c6 hf7 hR
          go_wp2
          go_ret
          exact ⟨rfl, F6.trans F5⟩
    · clear hb2 G3 hsz
      have z1 : (w2.alloc (.cells #[.int .i64 2, .int .i64 4, .int .i64 200, .int .i64 1000, .slice (some ⟨w2.heap.size + 1 + 1, 0, none⟩) 1 1, .slice none 0 0, .slice none 0 0] 34)).heap.size = w2.heap.size + 1 := size_alloc _ _
      have A1 := new_at (b := w2.heap.size + 1) z1 ((Fr.refl [] ((w2.alloc (.cells #[.int .i64 2, .int .i64 4, .int .i64 200, .int .i64 1000, .slice (some ⟨w2.heap.size + 1 + 1, 0, none⟩) 1 1, .slice none 0 0, .slice none 0 0] 34)).alloc (.cells #[.int .i64 1, .int .i64 63, .int .i64 1, .int .i64 0] 40))).alloc (.cells #[.slice (some ⟨w2.heap.size + 1, 0, none⟩) 1 1] 38))
      have A2 := new_at (b := w2.heap.size + 1 + 1) ((size_alloc _ _).trans (congrArg (· + 1) z1)) (Fr.refl [] (((w2.alloc (.cells #[.int .i64 2, .int .i64 4, .int .i64 200, .int .i64 1000, .slice (some ⟨w2.heap.size + 1 + 1, 0, none⟩) 1 1, .slice none 0 0, .slice none 0 0] 34)).alloc (.cells #[.int .i64 1, .int .i64 63, .int .i64 1, .int .i64 0] 40)).alloc (.cells #[.slice (some ⟨w2.heap.size + 1, 0, none⟩) 1 1] 38)))
      have S := one_script A1 (by decide) A2
      have G5 := ((G2.alloc (.cells #[.int .i64 2, .int .i64 4, .int .i64 200, .int .i64 1000, .slice (some ⟨w2.heap.size + 1 + 1, 0, none⟩) 1 1, .slice none 0 0, .slice none 0 0] 34)).alloc (.cells #[.int .i64 1, .int .i64 63, .int .i64 1, .int .i64 0] 40)).alloc (.cells #[.slice (some ⟨w2.heap.size + 1, 0, none⟩) 1 1] 38)
      clear z1 A1 A2
      go_wp2_with fail
      refine (script_any _ _ _ _ _ _ _ _ _ S).mono ?_; rintro e wS ⟨rfl, F5⟩
      rw [errv_of0 (show scode 2 4 200 1000 [[(1, 63, 1, 0)]] [] = 0 by decide +kernel)]
      clear S
      go_wp2
      go_ret
      exact ⟨rfl, G5.trans F5⟩
    · clear hb2 G3 hsz
      have z1 : (w2.alloc (.cells #[.int .i64 2, .int .i64 4, .int .i64 200, .int .i64 1000, .slice (some ⟨w2.heap.size + 1 + 1, 0, none⟩) 1 1, .slice none 0 0, .slice none 0 0] 34)).heap.size = w2.heap.size + 1 := size_alloc _ _
      have A1 := new_at (b := w2.heap.size + 1) z1 ((Fr.refl [] ((w2.alloc (.cells #[.int .i64 2, .int .i64 4, .int .i64 200, .int .i64 1000, .slice (some ⟨w2.heap.size + 1 + 1, 0, none⟩) 1 1, .slice none 0 0, .slice none 0 0] 34)).alloc (.cells #[.int .i64 1, .int .i64 0, .int .i64 1048576, .int .i64 0] 40))).alloc (.cells #[.slice (some ⟨w2.heap.size + 1, 0, none⟩) 1 1] 38))
      have A2 := new_at (b := w2.heap.size + 1 + 1) ((size_alloc _ _).trans (congrArg (· + 1) z1)) (Fr.refl [] (((w2.alloc (.cells #[.int .i64 2, .int .i64 4, .int .i64 200, .int .i64 1000, .slice (some ⟨w2.heap.size + 1 + 1, 0, none⟩) 1 1, .slice none 0 0, .slice none 0 0] 34)).alloc (.cells #[.int .i64 1, .int .i64 0, .int .i64 1048576, .int .i64 0] 40)).alloc (.cells #[.slice (some ⟨w2.heap.size + 1, 0, none⟩) 1 1] 38)))
      have S := one_script A1 (by decide) A2
      have G5 := ((G2.alloc (.cells #[.int .i64 2, .int .i64 4, .int .i64 200, .int .i64 1000, .slice (some ⟨w2.heap.size + 1 + 1, 0, none⟩) 1 1, .slice none 0 0, .slice none 0 0] 34)).alloc (.cells #[.int .i64 1, .int .i64 0, .int .i64 1048576, .int .i64 0] 40)).alloc (.cells #[.slice (some ⟨w2.heap.size + 1, 0, none⟩) 1 1] 38)
      clear z1 A1 A2
      go_wp2_with fail
      refine (script_any _ _ _ _ _ _ _ _ _ S).mono ?_; rintro e wS ⟨rfl, F5⟩
      rw [errv_of0 (show scode 2 4 200 1000 [[(1, 0, 1048576, 0)]] [] = 0 by decide +kernel)]
      clear S
      go_wp2
      go_ret
      exact ⟨rfl, G5.trans F5⟩
    · clear hb2 G3 hsz
      have z1 : (w2.alloc (.cells #[.int .i64 2, .int .i64 4, .int .i64 200, .int .i64 1000, .slice (some ⟨w2.heap.size + 1 + 1, 0, none⟩) 1 1, .slice none 0 0, .slice none 0 0] 34)).heap.size = w2.heap.size + 1 := size_alloc _ _
      have A1 := new_at (b := w2.heap.size + 1) z1 ((Fr.refl [] ((w2.alloc (.cells #[.int .i64 2, .int .i64 4, .int .i64 200, .int .i64 1000, .slice (some ⟨w2.heap.size + 1 + 1, 0, none⟩) 1 1, .slice none 0 0, .slice none 0 0] 34)).alloc (.cells #[.int .i64 4, .int .i64 9, .int .i64 0, .int .i64 63] 40))).alloc (.cells #[.slice (some ⟨w2.heap.size + 1, 0, none⟩) 1 1] 38))
      have A2 := new_at (b := w2.heap.size + 1 + 1) ((size_alloc _ _).trans (congrArg (· + 1) z1)) (Fr.refl [] (((w2.alloc (.cells #[.int .i64 2, .int .i64 4, .int .i64 200, .int .i64 1000, .slice (some ⟨w2.heap.size + 1 + 1, 0, none⟩) 1 1, .slice none 0 0, .slice none 0 0] 34)).alloc (.cells #[.int .i64 4, .int .i64 9, .int .i64 0, .int .i64 63] 40)).alloc (.cells #[.slice (some ⟨w2.heap.size + 1, 0, none⟩) 1 1] 38)))
      have S := one_script A1 (by decide) A2
      have G5 := ((G2.alloc (.cells #[.int .i64 2, .int .i64 4, .int .i64 200, .int .i64 1000, .slice (some ⟨w2.heap.size + 1 + 1, 0, none⟩) 1 1, .slice none 0 0, .slice none 0 0] 34)).alloc (.cells #[.int .i64 4, .int .i64 9, .int .i64 0, .int .i64 63] 40)).alloc (.cells #[.slice (some ⟨w2.heap.size + 1, 0, none⟩) 1 1] 38)
      clear z1 A1 A2
      go_wp2_with fail
      refine (script_any _ _ _ _ _ _ _ _ _ S).mono ?_; rintro e wS ⟨rfl, F5⟩
      rw [errv_of0 (show scode 2 4 200 1000 [[(4, 9, 0, 63)]] [] = 0 by decide +kernel)]
      clear S
      go_wp2
      go_ret
      exact ⟨rfl, G5.trans F5⟩
end Go.Proofs.Ytedenkghacbdeaa.Og
