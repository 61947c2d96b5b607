/- The developers' map: a map from keys to what was done last; none until something is written. -/
import Derived.Test.YtjhgjpkiinkaeaaRDoAny
import Derived.Test.YtjhgjpkiinkaeaaVMap
import Derived.Shelf.SlMaps.Clone
namespace Go.Proofs.Ytjhgjpkiinkaeaa.Mp
open Go.RowKit Go.Maps Go.Proofs.Ytjhgjpkiinkaeaa.Ar Go.Proofs.Ytjhgjpkiinkaeaa.Og
set_option linter.unusedVariables false
set_option linter.unusedSimpArgs false
def lastv (f : Bool) (v wr : Int) : Value := .agg #[.bool f, .int .i64 v, .int .i64 wr]
theorem zero_last (W : World) : (zeroValue 57).run Try.prog W = .ok (lastv false 0 0) W := by kernel_rfl
def El (D : DataW Value) (V W : Nat → Int) (k : Nat) : Prop :=
  (has D (ik k) = false ∧ V k = -1 ∧ W k = -1) ∨ (has D (ik k) = true ∧ ∀ z, D.atKey (ik k) z = .held (lastv (decide (0 ≤ V k)) (max 0 (V k)) (W k)))
def Mo (w : World) (q : Nat) (B : List Nat) (V W : Nat → Int) : Prop :=
  (w.heap[q]? = some (.cells #[.map none] 54 (0, 0)) ∧ B = [q] ∧ ∀ k, k < 64 → V k = -1 ∧ W k = -1) ∨
  (∃ b D, w.heap[q]? = some (.cells #[.map (some b)] 54 (0, 0)) ∧ B = [q, b] ∧ VMap w b D ∧ ∀ k, k < 64 → El D V W k)
theorem Mo.kept {S : List Nat} {w w' : World} {q : Nat} {B : List Nat} {V W : Nat → Int} (h : Mo w q B V W) (f : Fr S w w') (hS : ∀ b, b ∈ B → b ∉ S) : Mo w' q B V W := by
  rcases h with ⟨h1, rfl, h2⟩ | ⟨b, D, h1, rfl, h2, h3⟩
  · exact .inl ⟨f.heap h1 (hS q (by simp)), rfl, h2⟩
  · exact .inr ⟨b, D, f.heap h1 (hS q (by simp)), rfl, h2.kept f (hS b (by simp)), h3⟩
theorem Mo.lt {w : World} {q : Nat} {B : List Nat} {V W : Nat → Int} (h : Mo w q B V W) : ∀ b, b ∈ B → b < w.heap.size := by
  rcases h with ⟨h1, rfl, h2⟩ | ⟨b, D, h1, rfl, h2, h3⟩
  · intro b hb; rw [List.mem_singleton.1 hb]; exact (Array.getElem?_eq_some_iff.1 h1).1
  · intro c hc
    simp only [List.mem_cons, List.not_mem_nil, or_false] at hc
    rcases hc with rfl | rfl
    · exact (Array.getElem?_eq_some_iff.1 h1).1
    · exact h2.lt
theorem Mo.q_mem {w : World} {q : Nat} {B : List Nat} {V W : Nat → Int} (h : Mo w q B V W) : q ∈ B := by
  rcases h with ⟨h1, rfl, h2⟩ | ⟨b, D, h1, rfl, h2, h3⟩ <;> simp
/-- What is asked of it. -/
theorem Mo.look {w : World} {q : Nat} {B : List Nat} {V W : Nat → Int} (h : Mo w q B V W) {k : Nat} (hk : k < 64) :
    ∃ m hs x, w.cell? ⟨q, 0, none⟩ = some (.map m) ∧ (hs = true ∧ x = W k ∨ hs = false ∧ W k = -1) ∧
      ∀ c, (Instr.lookup 52 (.map m) (.int .i64 k) c).run Try.prog w = .ok (if c then .tuple #[lastv (decide (0 ≤ V k)) (max 0 (V k)) x, .bool hs] else lastv (decide (0 ≤ V k)) (max 0 (V k)) x) w := by
  rcases h with ⟨h1, rfl, h2⟩ | ⟨b, D, h1, rfl, h2, h3⟩
  · obtain ⟨e1, e2⟩ := h2 k hk
    refine ⟨none, false, 0, by rw [cell_of_row _ _ _ _ _ _ h1]; rfl, .inr ⟨rfl, e2⟩, fun c => ?_⟩
    rw [Maps.look_nil c intKeyV Try.underlying52 (zero_last w) (keyOf_ik hk), e1]
    rfl
  · rcases h3 k hk with ⟨e0, e1, e2⟩ | ⟨e0, e1⟩
    · refine ⟨some b, false, 0, by rw [cell_of_row _ _ _ _ _ _ h1]; rfl, .inr ⟨rfl, e2⟩, fun c => ?_⟩
      rw [h2.look Try.underlying52 (zero_last w) hk (atKey_of_not_has e0 _) c, e0, e1]
      rfl
    · refine ⟨some b, true, W k, by rw [cell_of_row _ _ _ _ _ _ h1]; rfl, .inl ⟨rfl, rfl⟩, fun c => ?_⟩
      rw [h2.look Try.underlying52 (zero_last w) hk (e1 _) c, e0]
theorem nil_map (W : World) : (binOp .eql 52 (.map none) (.map none)).run Try.prog W = .ok (.bool true) W := by kernel_rfl
theorem some_map (b : Nat) (W : World) : (binOp .eql 52 (.map (some b)) (.map none)).run Try.prog W = .ok (.bool false) W := by kernel_rfl
theorem new_any (w : World) : Calls Try.prog 9 #[] w fun e w' => ∃ q B, e = .returned (.pointer (some ⟨q, 0, none⟩)) ∧ (∀ b, b ∈ B → w.heap.size ≤ b) ∧ Mo w' q B none1 none1 ∧ Fr [] w w' := by
  go_enter Try.func9, Try.ntmps9
  go_wp2_with fail
  go_ret
  exact ⟨_, _, rfl, by simp, .inl ⟨Go.heap_alloc_new w _, rfl, fun k _ => ⟨rfl, rfl⟩⟩, (Fr.refl [] w).alloc _⟩
def set3 (w : World) (b : Nat) (y0 y1 y2 : Value) : World := ((w.setCell ⟨b, 0, none⟩ y0).setCell ⟨b, 1, none⟩ y1).setCell ⟨b, 2, none⟩ y2
theorem set3_fr (w : World) (b : Nat) (y0 y1 y2 : Value) : Fr [b] w (set3 w b y0 y1 y2) :=
  ((Fr.setCell (w := w) (b := b) (i := 0) y0 (List.mem_singleton.2 rfl)).setCell' y1 (List.mem_singleton.2 rfl)).setCell' y2 (List.mem_singleton.2 rfl)
theorem set3_heap {w : World} {b : Nat} {x0 x1 x2 : Value} {T : TypeId} (h : w.heap[b]? = some (.cells #[x0, x1, x2] T (0, 0))) (y0 y1 y2 : Value) : (set3 w b y0 y1 y2).heap[b]? = some (.cells #[y0, y1, y2] T (0, 0)) := by
  have h0 := heap_setCell_same _ b 0 _ _ y0 h
  have h1 := heap_setCell_same _ b 1 _ _ y1 h0
  have h2 := heap_setCell_same _ b 2 _ _ y2 h1
  exact h2.trans rfl
theorem cells3 {w : World} {b : Nat} {t : TypeId} {x0 x1 x2 : Value} (h : w.heap[b]? = some (.cells #[x0, x1, x2] t (0, 0))) :
    w.cell? ⟨b, 0, none⟩ = some x0 ∧ w.cell? ⟨b, 1, none⟩ = some x1 ∧ w.cell? ⟨b, 2, none⟩ = some x2 :=
  ⟨by rw [cell_of_row _ _ _ _ _ _ h]; rfl, by rw [cell_of_row _ _ _ _ _ _ h]; rfl, by rw [cell_of_row _ _ _ _ _ _ h]; rfl⟩
set_option maxHeartbeats 1600000 in
theorem get_any (q : Nat) (B : List Nat) (V W : Nat → Int) (n : Nat) (w : World) (hn : n < 64) (h : Mo w q B V W) :
    Calls Try.prog 16 #[.pointer (some ⟨q, 0, none⟩), .int .i64 n] w fun e w' => e = .returned (.tuple #[.int .i64 (max 0 (V n)), .bool (decide (0 ≤ V n))]) ∧ Fr [] w w' := by
  obtain ⟨m, hs, x, hc, -, hl⟩ := h.look hn
  have hl0 := hl false
  simp only [lastv] at hl0
  simp at hl0
  clear hl
  go_enter Try.func16, Try.ntmps16
  go_wp2_with fail
  have hb := Go.heap_alloc_new w (.cells #[.bool (decide (0 ≤ V n)), .int .i64 (max 0 (V n)), .int .i64 x] 57)
  have F0 := (Fr.refl [] w).alloc (.cells #[.bool (decide (0 ≤ V n)), .int .i64 (max 0 (V n)), .int .i64 x] 57)
  generalize (w.alloc (.cells #[.bool (decide (0 ≤ V n)), .int .i64 (max 0 (V n)), .int .i64 x] 57)) = w1 at *
  obtain ⟨c0, c1, c2⟩ := cells3 hb
  have k0 := In.cell c0
  have k1 := In.cell c1
  clear c0 c1 c2 hb hc hl0
  refine wp_region_in (by kernel_rfl) (by kernel_rfl) ?_
  repeat (go_big_quiet_step (fail))
  refine wpQuiet_nil ?_
  intro w2 F2
  go_wp2
  go_ret2
  exact ⟨rfl, F0.trans F2⟩
set_option maxHeartbeats 1600000 in
theorem writer_any (q : Nat) (B : List Nat) (V W : Nat → Int) (n : Nat) (w : World) (hn : n < 64) (h : Mo w q B V W) :
    Calls Try.prog 17 #[.pointer (some ⟨q, 0, none⟩), .int .i64 n] w fun e w' => e = .returned (.int .i64 (W n)) ∧ Fr [] w w' := by
  obtain ⟨m, hs, x, hc, hx, hl⟩ := h.look hn
  have hl0 := hl true
  simp only [lastv] at hl0
  simp at hl0
  clear hl
  have hb := Go.heap_alloc_new w (.cells #[.bool (decide (0 ≤ V n)), .int .i64 (max 0 (V n)), .int .i64 x] 57)
  have F0 := (Fr.refl [] w).alloc (.cells #[.bool (decide (0 ≤ V n)), .int .i64 (max 0 (V n)), .int .i64 x] 57)
  rcases hx with ⟨rfl, rfl⟩ | ⟨rfl, hw⟩
  · go_enter Try.func17, Try.ntmps17
    go_wp2_with fail
    go_ret
    exact ⟨rfl, F0⟩
  · go_enter Try.func17, Try.ntmps17
    go_wp2_with fail
    go_ret
    exact ⟨by rw [hw]; rfl, F0⟩
theorem Mo.wrote {w' : World} {q b n : Nat} {D : DataW Value} {V W : Nat → Int} (hn : n < 64) {f : Bool} {v wr : Int} (h1 : w'.heap[q]? = some (.cells #[.map (some b)] 54 (0, 0))) (hM : IsMap D) (h2 : VMap w' b (D.put (ik n) (.held (lastv f v wr))))
    (h3 : ∀ k, k < 64 → El D V W k) {nv : Int} (hf : f = true ∧ 0 ≤ v ∧ nv = v ∨ f = false ∧ v = 0 ∧ nv = -1) : Mo w' q [q, b] (upd V n nv) (upd W n wr) := by
  refine .inr ⟨b, _, h1, rfl, h2, fun k hk => ?_⟩
  unfold El upd
  by_cases e : k = n
  · subst e
    refine .inr ⟨has_put_same hM (show WideAt.IsKeyLit (ik k) from trivial) _, fun z => ?_⟩
    rw [atKey_put_same hM (show WideAt.IsKeyLit (ik k) from trivial)]
    simp only [if_pos]
    rcases hf with ⟨rfl, h0, rfl⟩ | ⟨rfl, rfl, rfl⟩
    · simp [h0, Int.max_eq_right h0]
    · rfl
  · simp only [if_neg e]
    have hne : ik k ≠ ik n := fun h => e (ik_inj h)
    rw [has_put_other hne]
    rcases h3 k hk with h | ⟨e0, e1⟩
    · exact .inl h
    · exact .inr ⟨e0, fun z => by rw [atKey_put_other hne]; exact e1 z⟩
/-- Where write stands ahead of its store: the map is made, what is to be written lies in block l. -/
structure Wr (w w' : World) (q b l : Nat) (D : DataW Value) (f : Bool) (v wr : Int) : Prop where
  hq : w'.heap[q]? = some (.cells #[.map (some b)] 54 (0, 0))
  hl : w'.heap[l]? = some (.cells #[.bool f, .int .i64 v, .int .i64 wr] 57 (0, 0))
  hm : VMap w' b D
  g : Fr [q] w w'
  lq : l ≠ q
theorem Wr.first {w : World} {q : Nat} (h1 : w.heap[q]? = some (.cells #[.map none] 54 (0, 0))) (f : Bool) (v wr : Int) :
    Wr w (((w.setCell ⟨q, 0, none⟩ (.map (some (w.heap.size + 1)))).alloc (.cells #[.bool f, .int .i64 v, .int .i64 wr] 57)).alloc (.map #[] 0)) q (w.heap.size + 1) w.heap.size (.map []) f v wr := by
  have hlt : q < w.heap.size := (Array.getElem?_eq_some_iff.1 h1).1
  have hs : (w.setCell ⟨q, 0, none⟩ (.map (some (w.heap.size + 1)))).heap.size = w.heap.size := by simp
  have hq := (heap_setCell_same _ q 0 _ _ (.map (some (w.heap.size + 1))) h1).trans (show _ = some (Obj.cells #[.map (some (w.heap.size + 1))] 54 (0, 0)) from rfl)
  have F1 : Fr [q] w (w.setCell ⟨q, 0, none⟩ (.map (some (w.heap.size + 1)))) := Fr.setCell _ (List.mem_singleton.2 rfl)
  generalize w.setCell ⟨q, 0, none⟩ (.map (some (w.heap.size + 1))) = w1 at *
  have F2 := (Fr.refl [] w1).alloc (.cells #[.bool f, .int .i64 v, .int .i64 wr] 57)
  have hl := Go.heap_alloc_new w1 (.cells #[.bool f, .int .i64 v, .int .i64 wr] 57)
  have hs2 := sizeAlloc w1 (.cells #[.bool f, .int .i64 v, .int .i64 wr] 57)
  generalize w1.alloc (.cells #[.bool f, .int .i64 v, .int .i64 wr] 57) = w2 at *
  have F3 := (Fr.refl [] w2).alloc (.map #[] 0)
  have hm := VMap.made w2
  rw [hs2, hs] at hm
  rw [hs] at hl
  exact ⟨heapUp (F2.trans F3) hq, heapUp F3 hl, hm, F1.then (F2.trans F3), by omega⟩
theorem Wr.up {w w' w'' : World} {q b l : Nat} {D : DataW Value} {f : Bool} {v wr : Int} (h : Wr w w' q b l D f v wr) (F : Fr [] w' w'') : Wr w w'' q b l D f v wr :=
  ⟨heapUp F h.hq, heapUp F h.hl, h.hm.kept F (by simp), h.g.then F, h.lq⟩
/-- What a write leaves. -/
def WroteAt (w : World) (q : Nat) (B : List Nat) (V W : Nat → Int) (w' : World) : Prop := ∃ B', Mo w' q B' V W ∧ (∀ b, b ∈ B' → b ∈ B ∨ w.heap.size ≤ b) ∧ Fr B w w'
set_option maxHeartbeats 1600000 in
theorem write_any (q : Nat) (B : List Nat) (V W : Nat → Int) (n : Nat) (f : Bool) (v wr nv : Int) (w : World) (hn : n < 64) (hf : f = true ∧ 0 ≤ v ∧ nv = v ∨ f = false ∧ v = 0 ∧ nv = -1) (h : Mo w q B V W) :
    Calls Try.prog 21 #[.pointer (some ⟨q, 0, none⟩), .int .i64 n, .agg #[.bool f, .int .i64 v, .int .i64 wr]] w fun e w' => e = .returned (.tuple #[]) ∧ WroteAt w q B (upd V n nv) (upd W n wr) w' := by
  have HF := Lib.hid hf
  clear hf
  have hn1 := nil_map
  have hn2 := some_map
  have hmm := @run_makeMap Try.prog
  have F0 := (Fr.refl [] w).alloc (.cells #[.bool f, .int .i64 v, .int .i64 wr] 57)
  have H0 := Go.heap_alloc_new w (.cells #[.bool f, .int .i64 v, .int .i64 wr] 57)
  have hlt := h.lt q h.q_mem
  rcases h with ⟨h1, rfl, h2⟩ | ⟨b, D, h1, rfl, h2, h3⟩
  · have hq1 := heapUp F0 h1
    have hc := (cell_of_row _ q 0 _ _ _ hq1).trans (show _ = some (Value.map none) from rfl)
    have hz : w.frozen? ⟨q, 0, none⟩ = false := frozen_of_row _ _ _ _ _ h1
    go_enter Try.func21, Try.ntmps21
    go_wp2_with fail
    have S5 := Wr.first h1 f v wr
    clear hq1 H0 F0
    generalize (((w.setCell ⟨q, 0, none⟩ (.map (some (w.heap.size + 1)))).alloc (.cells #[.bool f, .int .i64 v, .int .i64 wr] 57)).alloc (.map #[] 0)) = w5 at *
    generalize hbe : w.heap.size + 1 = b at S5 ⊢
    have hlw := Nat.le_refl w.heap.size
    generalize hle : w.heap.size = l at S5 hlw ⊢
    clear hn1 hn2 hmm hz hc
    refine wp_region_env (by kernel_rfl) [b] (fun w2 F2 => ?_)
    refine env_pass [true, true, true, true, true, true, false] 1 (n := 21) (listed' := #[true, true, true, true, true, true, false]) rfl (by kernel_rfl) (by kernel_rfl) (by kernel_rfl) rfl (by kernel_rfl) (fun _ _ d _ _ h => by cases d <;> exact h) (F2.mono (by simp)) ?_
    apply Exists.intro
    refine ⟨fun wf Ff => ?_, ?_⟩
    · obtain ⟨c0, c1, c2⟩ := cells3 (Ff.heap S5.hl (by simp; exact (S5.hm.ne S5.hl).symm))
      have k0 := In.cell c0
      have k1 := In.cell c1
      have k2 := In.cell c2
      have k3 := In.cell ((cell_of_row _ q 0 _ _ _ (Ff.heap S5.hq (by simp; exact (S5.hm.ne S5.hq).symm))).trans (show _ = some (Value.map (some b)) from rfl))
      clear c0 c1 c2
      simp only [sel]
      repeat (go_big_quiet_step (fail))
      exact wpQuiet_nil rfl
    refine env_one 6 (by kernel_rfl) rfl rfl (fun w3 F3 => ?_)
    have S6 := S5.up (F2.trans F3)
    obtain ⟨w7, hrun, V7, F7⟩ := S6.hm.put Try.underlying52 hn (lastv f v wr)
    unfold lastv at hrun
    have F7' := F2.trans F3
    clear F2 F3 S5
    go_wp2
    refine nx_normal ⟨(F7'.mono (by simp)).trans F7, ?_⟩
    refine env_done (by kernel_rfl) (fun w9 F9 => ?_)
    have q7 := F7.heap S6.hq (by simp; exact (S6.hm.ne S6.hq).symm)
    have hM := S6.hm.isMap
    have g6 := S6.g
    have hend : WroteAt w q [q] (upd V n nv) (upd W n wr) w9 := ⟨[q, b], (Mo.wrote hn q7 hM V7 (fun k hk => .inl ⟨rfl, h2 k hk⟩) HF.out).kept F9 (by simp), (by intro c hc; simp at hc; rcases hc with rfl | rfl; exact .inl (by simp); exact .inr (by omega)), (ownLast g6 F7 (by omega)).then F9⟩
    go_wp2
    go_end0
    exact ⟨rfl, hend⟩
  · have hq1 := heapUp F0 h1
    have hc := (cell_of_row _ q 0 _ _ _ hq1).trans (show _ = some (Value.map (some b)) from rfl)
    go_enter Try.func21, Try.ntmps21
    go_wp2_with fail
    have S5 : Wr w (w.alloc (.cells #[.bool f, .int .i64 v, .int .i64 wr] 57)) q b w.heap.size D f v wr := ⟨hq1, H0, h2.kept F0 (by simp), F0.mono (by simp), by omega⟩
    clear hq1 H0 F0
    generalize (w.alloc (.cells #[.bool f, .int .i64 v, .int .i64 wr] 57)) = w5 at *
    have hlw := Nat.le_refl w.heap.size
    generalize hle : w.heap.size = l at S5 hlw ⊢
    clear hn1 hn2 hmm hc
    refine wp_region_env (by kernel_rfl) [b] (fun w2 F2 => ?_)
    refine env_pass [true, true, true, true, true, true, false] 1 (n := 21) (listed' := #[true, true, true, true, true, true, false]) rfl (by kernel_rfl) (by kernel_rfl) (by kernel_rfl) rfl (by kernel_rfl) (fun _ _ d _ _ h => by cases d <;> exact h) (F2.mono (by simp)) ?_
    apply Exists.intro
    refine ⟨fun wf Ff => ?_, ?_⟩
    · obtain ⟨c0, c1, c2⟩ := cells3 (Ff.heap S5.hl (by simp; exact (S5.hm.ne S5.hl).symm))
      have k0 := In.cell c0
      have k1 := In.cell c1
      have k2 := In.cell c2
      have k3 := In.cell ((cell_of_row _ q 0 _ _ _ (Ff.heap S5.hq (by simp; exact (S5.hm.ne S5.hq).symm))).trans (show _ = some (Value.map (some b)) from rfl))
      clear c0 c1 c2
      simp only [sel]
      repeat (go_big_quiet_step (fail))
      exact wpQuiet_nil rfl
    refine env_one 6 (by kernel_rfl) rfl rfl (fun w3 F3 => ?_)
    have S6 := S5.up (F2.trans F3)
    obtain ⟨w7, hrun, V7, F7⟩ := S6.hm.put Try.underlying52 hn (lastv f v wr)
    unfold lastv at hrun
    have F7' := F2.trans F3
    clear F2 F3 S5
    go_wp2
    refine nx_normal ⟨(F7'.mono (by simp)).trans F7, ?_⟩
    refine env_done (by kernel_rfl) (fun w9 F9 => ?_)
    have q7 := F7.heap S6.hq (by simp; exact (S6.hm.ne S6.hq).symm)
    have hM := S6.hm.isMap
    have g6 := S6.g
    have hend : WroteAt w q [q, b] (upd V n nv) (upd W n wr) w9 := ⟨[q, b], (Mo.wrote hn q7 hM V7 h3 HF.out).kept F9 (by simp), fun c hc => .inl hc, ((g6.mono (by simp)).trans (F7.mono (by simp))).then F9⟩
    go_wp2
    go_end0
    exact ⟨rfl, hend⟩
/-- Where the loop over the keys stands. -/
def PrsAt (w : World) (q : Nat) (B : List Nat) (V W : Nat → Int) (n m : Nat) (u x : Value) (wr : World) : Prop := ∃ j, j ≤ m + 1 - n ∧ x = .int .i64 ((n + j : Nat) : Int) ∧ wr.ownsRow w.heap.size 48 2 u (prs V n j).length ((prs V n j).flatMap cells2) ∧ Mo wr q B V W ∧ Fr [] w wr
theorem prs_step {w w6 w' : World} {q : Nat} {B : List Nat} {V W : Nat → Int} {n j k : Nat} {u v' : Value} {o : Obj} (hB : ∀ b, b ∈ B → b < w.heap.size) (r6 : w6.ownsRow w.heap.size 48 2 u (prs V n j).length ((prs V n j).flatMap cells2)) (M6 : Mo w6 q B V W) (G6 : Fr [] w w6)
    (hs : prs V n (j + 1) = prs V n j ++ [((k : Int), V k)]) (hr : w'.ownsRow w.heap.size 48 2 v' ((prs V n j).length + 1) ((prs V n j).flatMap cells2 ++ [.int .i64 k, .int .i64 (V k)])) (f : Fr u.ownBlock.toList (w6.alloc o) w') :
    w'.ownsRow w.heap.size 48 2 v' (prs V n (j + 1)).length ((prs V n (j + 1)).flatMap cells2) ∧ Mo w' q B V W ∧ Fr [] w w' := by
  have hb := row_base r6
  have F0 := (Fr.refl [] w6).alloc o
  refine ⟨?_, (M6.kept F0 (by simp)).kept f (fun b hb2 hi => ?_), (G6.trans F0).own f hb⟩
  · rw [hs, List.flatMap_append, List.length_append]; exact hr
  · have := hB b hb2; have := hb b hi; omega
set_option maxHeartbeats 3200000 in
theorem pairs_any (q : Nat) (B : List Nat) (V W : Nat → Int) (n m : Nat) (w : World) (hn : n < 64) (hm : m < 64) (h : Mo w q B V W) :
    Calls Try.prog 22 #[.pointer (some ⟨q, 0, none⟩), .int .i64 n, .int .i64 m] w fun e w' => (∃ pv, e = .returned pv ∧ PairRow w' pv (scan V n m) ∧ ∀ g, g ∈ pv.ownBlock.toList → w.heap.size ≤ g) ∧ Fr [] w w' := by
  have HB := Lib.hid h.lt
  go_enter Try.func22, Try.ntmps22
  go_wp2_with fail
  go_loopw [7, 8] (PrsAt w q B V W n m) (fun _ x _ => m + 1 - (intOf x).toNat)
  case atStart => exact ⟨0, by omega, rfl, ⟨rfl, .inl ⟨rfl, rfl⟩⟩, h, Fr.refl _ _⟩
  case round =>
    obtain ⟨j, hj, rfl, hr, hM, hF⟩ := hrel
    clear h
    by_cases hlt : n + j ≤ m
    · have g : decide (((n + j : Nat) : Int) ≤ (m : Int)) = true := by simp; omega
      have hk64 : n + j < 64 := by omega
      have hsucc := prs_succ V n j
      have hLb := prs_length V n j
      generalize hkk : n + j = k at *
      go_wp2_with fail
      refine (get_any q B _ _ k _ hk64 hM).mono ?_; rintro e w6 ⟨rfl, F6⟩
      have M6 := hM.kept F6 (by simp)
      have r6 := row_keeps hr F6
      have G6 := hF.trans F6
      clear hM hr hF F6
      by_cases hv : 0 ≤ V k
      · rw [show max 0 (V k) = V k by omega, show decide (0 ≤ V k) = true by simpa using hv]
        rw [if_pos hv] at hsucc
        have HK := Lib.hid hkk
        have HS := Lib.hid hsucc
        clear hkk hsucc g
        go_wp2_with (at_builtin; refine wpList_app rfl _ _ 29 rfl Try.underlying29 pairInfo rfl (by decide) _ _ _ rfl (r6.alloc _) rfl (Go.heap_alloc_new _ _) rfl (by intro z hz; simp at hz; rcases hz with rfl | rfl <;> rfl) (by have := prs_length V n j; unfold maxLen; omega) (by have := prs_length V n j; omega) (by have := G6.size; rw [sizeAlloc]; omega) ?_; intro v' w' hr1 f; obtain ⟨r7, M7, G7⟩ := prs_step HB.out r6 M6 G6 HS.out hr1 f; obtain ⟨a9, cap9, rfl, -, -⟩ := row_cell hr1; clear hr1 f r6 M6 G6)
        exact ⟨⟨j + 1, by have := HK.out; omega, by rw [← HK.out]; go_num, r7, M7, G7⟩, by have := HK.out; simp [intOf]; omega⟩
      · rw [show decide (0 ≤ V k) = false by simpa using hv]
        rw [if_neg hv, List.append_nil] at hsucc
        have HK := Lib.hid hkk
        have HS := Lib.hid hsucc
        clear hkk hsucc g
        go_wp2
        exact ⟨⟨j + 1, by have := HK.out; omega, by rw [← HK.out]; go_num, by rw [HS.out]; exact r6, M6, G6⟩, by have := HK.out; simp [intOf]; omega⟩
    · have g : decide (((n + j : Nat) : Int) ≤ (m : Int)) = false := by simp; omega
      have hjs : prs V n j = scan V n m := by unfold scan; rw [show m + 1 - n = j by omega]
      rw [hjs] at hr
      clear hjs
      go_wp2
      go_ret
      exact ⟨⟨_, rfl, own_pairs hr, row_base hr⟩, hF⟩
theorem all_any (q : Nat) (B : List Nat) (V W : Nat → Int) (w : World) (h : Mo w q B V W) :
    Calls Try.prog 15 #[.pointer (some ⟨q, 0, none⟩)] w fun e w' => (∃ pv, e = .returned pv ∧ PairRow w' pv (scan V 0 63) ∧ ∀ g, g ∈ pv.ownBlock.toList → w.heap.size ≤ g) ∧ Fr [] w w' := by
  go_enter Try.func15, Try.ntmps15
  go_wp2_with fail
  refine (pairs_any q B V W 0 63 _ (by decide) (by decide) h).mono ?_; rintro e w1 ⟨⟨pv, rfl, hp, hg⟩, F⟩
  have hp0 := hp
  obtain ⟨a, cap, rfl, -, -⟩ := hp
  have HP := Lib.hid hp0
  have HG := Lib.hid hg
  clear hp0 hg
  go_wp2
  go_ret
  exact ⟨⟨_, rfl, HP.out, HG.out⟩, F⟩
/-- The entry for maps.Clone: a new block with the old entries. -/
theorem clone_some (w : World) (b : Nat) (D : DataW Value) (h : VMap w b D) :
    Calls Try.prog 24 #[.map (some b)] w fun e w' => ∃ b', e = .returned (.map (some b')) ∧ w.heap.size ≤ b' ∧ VMap w' b' D ∧ Fr [] w w' := by
  obtain ⟨⟨n, es, clock, hb, h1⟩, h2⟩ := h
  have hn2 := some_map
  go_enter Try.func24, Try.ntmps24
  go_wp2
  rw [run_callFunc_extern Try.func27 (by kernel_rfl) (by kernel_rfl) (by kernel_rfl) (e := Extern.MapsClone.clone) (by kernel_rfl), run_maps_clone_sl w 52 hb]
  simp only [Result.andThen]
  rw [Oper.upon_value]
  go_wp2
  rw [run_typeAssert_map_sl _ 52 20 _ _ _ Try.underlying52]
  simp only [Result.andThen]
  rw [Oper.upon_value]
  go_wp2
  go_ret
  exact ⟨_, rfl, Nat.le_refl _, ⟨⟨n, es, clock, (MapKept.heap_alloc w _).1, h1⟩, h2⟩, (Fr.refl [] w).alloc _⟩
theorem clone_none (w : World) :
    Calls Try.prog 24 #[.map none] w fun e w' => e = .returned (.map none) ∧ Fr [] w w' := by
  have hn1 := nil_map
  go_enter Try.func24, Try.ntmps24
  go_wp2
  go_ret
  exact ⟨rfl, Fr.refl _ _⟩
theorem copy_any (q : Nat) (B : List Nat) (V W : Nat → Int) (w : World) (h : Mo w q B V W) :
    Calls Try.prog 19 #[.pointer (some ⟨q, 0, none⟩)] w fun e w' => ∃ q' B', e = .returned (.pointer (some ⟨q', 0, none⟩)) ∧ (∀ b, b ∈ B' → w.heap.size ≤ b) ∧ Mo w' q' B' V W ∧ Fr [] w w' := by
  rcases h with ⟨h1, rfl, h2⟩ | ⟨b, D, h1, rfl, h2, h3⟩
  · have hc := (cell_of_row _ q 0 _ _ _ h1).trans (show _ = some (Value.map none) from rfl)
    go_enter Try.func19, Try.ntmps19
    go_wp2_with fail
    refine (clone_none _).mono ?_; rintro e w1 ⟨rfl, F1⟩
    go_wp2
    go_ret
    exact ⟨_, [w1.heap.size], rfl, by simp; exact F1.size, .inl ⟨Go.heap_alloc_new w1 _, rfl, h2⟩, F1.alloc _⟩
  · have hc := (cell_of_row _ q 0 _ _ _ h1).trans (show _ = some (Value.map (some b)) from rfl)
    go_enter Try.func19, Try.ntmps19
    go_wp2_with fail
    refine (clone_some _ b D h2).mono ?_; rintro e w1 ⟨b', rfl, hb', M1, F1⟩
    have F2 := (Fr.refl [] w1).alloc (.cells #[.map (some b')] 54)
    go_wp2
    go_ret
    exact ⟨_, [w1.heap.size, b'], rfl, by simp; exact ⟨F1.size, hb'⟩, .inr ⟨b', D, Go.heap_alloc_new w1 _, rfl, M1.kept F2 (by simp), h3⟩, F1.trans F2⟩
end Go.Proofs.Ytjhgjpkiinkaeaa.Mp
