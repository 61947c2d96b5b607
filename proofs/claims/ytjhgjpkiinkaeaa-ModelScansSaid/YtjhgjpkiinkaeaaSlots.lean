/- Package op's map from a kind and a field to the field's most: what it holds, as a function of both. -/
import Derived.Test.YtjhgjpkiinkaeaaEnv
import Derived.Test.YtjhgjpkiinkaeaaMaps
import Derived.WideKeyPair
import Derived.DeepKeys4
namespace Go.Proofs.Ytjhgjpkiinkaeaa.Og
open Go.RowKit Go.Maps Go.Proofs.Ytjhgjpkiinkaeaa.Ar
set_option linter.unusedVariables false
theorem ownsKnob : laidOutB Try.prog = true := by kernel_rfl
theorem rowSlot : 67 < Try.prog.types.size := of_decide_eq_true (by kernel_rfl)
theorem keySlot : Try.prog.keyTypeAt 2 67 = true := by kernel_rfl
theorem slotKey : Keyed Try.prog 67 := Keyed.of_law (deep_law_laid ownsKnob (m := 2) (by omega) rowSlot keySlot (by rw [Try.underlying67]))
/-- A key, and what it reads as. -/
def sv (k f : Int) : Value := .agg #[.int .i64 k, .int .i64 f]
def sl (k f : Int) : Lit := .string (keyBytes [.int .i64 k, .int .i64 f])
theorem keyOf_slot (k f : Int) (hk : (Lit.int .i64 k).wf = true) (hf : (Lit.int .i64 f).wf = true) : keyOf Try.prog 67 (sv k f) = some (sl k f) := by
  have hkt : Try.prog.keyType 67 = true := by kernel_rfl
  have hfo : (sv k f).formed Try.prog 67 = true := by kernel_rfl
  have h2 : Try.prog.cellsOf 67 = 2 := by kernel_rfl
  have h1 : Try.prog.cellsOf 3 = 1 := by kernel_rfl
  obtain ⟨m, hm⟩ : ∃ m, Try.prog.types.size = m + 2 := ⟨Try.prog.types.size - 2, by kernel_rfl⟩
  unfold keyOf
  simp only [Try.underlying67]
  rw [if_pos (by simp [hkt, hfo]), hm]
  unfold Program.keyLits
  simp only [Try.underlying67, sv, Value.cells]
  rw [if_pos ⟨by rw [h2]; rfl, by decide +kernel⟩]
  simp [h1, Program.keyLits, Try.underlying3, hk, hf, sl]
theorem sl_inj {k f k' f' : Int} (hk : (Lit.int .i64 k).wf = true) (hf : (Lit.int .i64 f).wf = true) (hk' : (Lit.int .i64 k').wf = true) (hf' : (Lit.int .i64 f').wf = true) (h : sl k f = sl k' f') : k = k' ∧ f = f' := by
  have := slotKey.inj (keyOf_slot k f hk hf) ((keyOf_slot k' f' hk' hf').trans (by rw [h]))
  unfold sv at this
  simpa using this
/-- D holds just what g tells. -/
def HoldsS (D : DataW Unit) (g : Int → Int → Option Int) : Prop :=
  IsMap D ∧ ∀ k f : Int, (Lit.int .i64 k).wf = true → (Lit.int .i64 f).wf = true → Maps.has D (sl k f) = (g k f).isSome ∧ ∀ v, g k f = some v → ∀ zd, D.atKey (sl k f) zd = .lit (.int .i64 v)
/-- Block b is a map of at most n slots that holds what g tells. -/
def SMap (w : World) (b n : Nat) (g : Int → Int → Option Int) : Prop := ∃ D, w.ownsMap Try.prog 67 (plainElem (H := Unit) Try.prog 3) b n D ∧ HoldsS D g
theorem holdsS_empty : HoldsS (.map []) (fun _ _ => none) := ⟨isMap_empty, fun k f _ _ => ⟨rfl, fun v h => by cases h⟩⟩
def put2 (g : Int → Int → Option Int) (k f v : Int) : Int → Int → Option Int := fun x y => if x = k ∧ y = f then some v else g x y
theorem HoldsS.put {D : DataW Unit} {g : Int → Int → Option Int} (h : HoldsS D g) (k f v : Int) (hk : (Lit.int .i64 k).wf = true) (hf : (Lit.int .i64 f).wf = true) : HoldsS (D.put (sl k f) (.lit (.int .i64 v))) (put2 g k f v) := by
  obtain ⟨hm, hg⟩ := h
  refine ⟨hm.put _ _, fun x y hx hy => ?_⟩
  unfold put2
  by_cases he : x = k ∧ y = f
  · obtain ⟨rfl, rfl⟩ := he
    have hk' : WideAt.IsKeyLit (sl x y) := trivial
    exact ⟨by rw [has_put_same hm hk']; simp, fun u hu zd => by simp at hu; subst hu; exact atKey_put_same hm hk' _ _⟩
  · have hne : sl x y ≠ sl k f := fun e => he (sl_inj hx hy hk hf e)
    simp only [if_neg he]
    rw [has_put_other hne]
    exact ⟨(hg x y hx hy).1, fun u hu zd => by rw [atKey_put_other hne]; exact (hg x y hx hy).2 u hu zd⟩
theorem SMap.made (w : World) : SMap (w.alloc (.map #[] 0)) w.heap.size 0 (fun _ _ => none) := ⟨_, World.ownsMap_made w _ _ _, holdsS_empty⟩
theorem SMap.kept {w w' : World} {b n : Nat} {g : Int → Int → Option Int} {S : List Nat} (h : SMap w b n g) (f : Fr S w w') (hb : b ∉ S) : SMap w' b n g := by
  obtain ⟨D, ⟨es, clock, h1, h2⟩, hD⟩ := h
  exact ⟨D, ⟨es, clock, f.heap h1 hb, h2⟩, hD⟩
theorem SMap.lt {w : World} {b n : Nat} {g : Int → Int → Option Int} (h : SMap w b n g) : b < w.heap.size := by
  obtain ⟨D, h1, _⟩ := h; exact h1.lt
theorem run_insertS {w : World} {b n : Nat} {g : Int → Int → Option Int} (h : SMap w b n g) (hn : n < maxLen) (k f v : Int) (hk : (Lit.int .i64 k).wf = true) (hf : (Lit.int .i64 f).wf = true) (hv : (Lit.int .i64 v).wf = true) :
    ∃ w', (Instr.mapUpdate 63 (.map (some b)) (sv k f) (.int .i64 v)).run Try.prog w = .ok () w' ∧ SMap w' b (n + 1) (put2 g k f v) ∧ Fr [b] w w' := by
  obtain ⟨D, h1, hD⟩ := h
  obtain ⟨w', r1, r2, r3⟩ := h1.update slotKey Try.underlying63 hn (keyOf_slot k f hk hf) (plainElem_int Try.underlying3 hv)
  exact ⟨w', r1, ⟨_, r2, hD.put k f v hk hf⟩, Fr.grownAt r3⟩
/-- A store of a map's literal. -/
theorem wpList_insertS {w : World} {ops : Array Oper} {rest : List Oper} {o : Oper} {a : Act} {Q : Exit → Act → World → Prop}
    (hg : o.guard = none) (m x y : Operand) (hop : o.op = Op.insert 63 m x y) {b n : Nat} {g : Int → Int → Option Int} (k f v : Int)
    (hm : a.eval m = .map (some b)) (hx : a.eval x = sv k f) (hy : a.eval y = .int .i64 v) (h : SMap w b n g) (hn : n < maxLen) (hk : (Lit.int .i64 k).wf = true) (hf : (Lit.int .i64 f).wf = true) (hv : (Lit.int .i64 v).wf = true)
    (hK : ∀ w', SMap w' b (n + 1) (put2 g k f v) → Fr [b] w w' → wpList Try.prog ops Q rest (a.put o.dst undef) w') :
    wpList Try.prog ops Q (o :: rest) a w := by
  refine wpList_plain hg fun K' hK' => ?_
  obtain ⟨w', hrun, r1, r2⟩ := run_insertS h hn k f v hk hf hv
  unfold Oper.wp
  simp [execOp, hop, hm, hx, hy, hrun, Result.andThen]
  exact hK' _ _ (hK w' r1 r2)
theorem lit_inj {a v : Int} (h : (DataW.lit (H := Unit) (.int .i64 a)) = .lit (.int .i64 v)) : a = v := by cases h; rfl
theorem run_zero (w : World) : (zeroValue 3).run Try.prog w = .ok (.int .i64 0) w := by kernel_rfl
/-- What is asked of it. -/
theorem SMap.look {w : World} {b n : Nat} {g : Int → Int → Option Int} (h : SMap w b n g) (c : Bool) (k f : Int) (hk : (Lit.int .i64 k).wf = true) (hf : (Lit.int .i64 f).wf = true) :
    (Instr.lookup 63 (.map (some b)) (sv k f) c).run Try.prog w = .ok (if c then .tuple #[.int .i64 ((g k f).getD 0), .bool (g k f).isSome] else .int .i64 ((g k f).getD 0)) w := by
  obtain ⟨D, ⟨es, clock, hb, F, hs, rfl⟩, -, hD⟩ := h
  obtain ⟨hD1, hD2⟩ := hD k f hk hf
  rcases Maps.fit_look c slotKey Try.underlying63 (run_zero w) hb F (keyOf_slot k f hk hf) with ⟨hrun, _, hat⟩ | ⟨e0, y, _, _, hrun, hRv, hat, _⟩
  · rw [has_false_of_atKey hat] at hD1
    have hn : g k f = none := by cases hg : g k f <;> simp_all
    rw [hrun, hn]; rfl
  · obtain ⟨a, ha, hy, -⟩ := plainElem_int_inv Try.underlying3 hRv
    subst hy
    rw [has_true_of_atKey hat] at hD1
    obtain ⟨v, hv⟩ := Option.isSome_iff_exists.1 hD1.symm
    have := (hat (.lit (.int .i64 0))).symm.trans (hD2 v hv _)
    have hav : a = v := lit_inj this
    rw [hrun, hv, ha, hav]; rfl
/-- What slots tells. -/
def most (k f : Int) : Option Int :=
  if k = 1 ∧ f = 0 then some 63 else if k = 1 ∧ f = 1 then some 1048576 else if k = 2 ∧ f = 0 then some 63 else if k = 3 ∧ f = 0 then some 63 else if k = 4 ∧ f = 0 then some 63 else if k = 4 ∧ f = 2 then some 63 else none
def Slots (w : World) (b : Nat) : Prop := SMap w b 6 most
theorem wf_sm {k : Int} (h1 : -2000000 ≤ k) (h2 : k ≤ 2000000) : (Lit.int .i64 k).wf = true := WalkArith.wf_i64 (by omega)
theorem lt_max {n : Nat} (h : n < 1000) : n < maxLen := by unfold maxLen; omega
/-- Which store of the literal lays a slot. -/
def idx (k f : Int) : Nat := if k = 1 ∧ f = 0 then 2 else if k = 1 ∧ f = 1 then 4 else if k = 2 ∧ f = 0 then 6 else if k = 3 ∧ f = 0 then 8 else if k = 4 ∧ f = 0 then 10 else if k = 4 ∧ f = 2 then 12 else 0
/-- What is laid when the stores in rem are left. -/
def gOf (rem : List Nat) (k f : Int) : Option Int := if idx k f ∈ rem then none else most k f
theorem gOf_put {rem : List Nat} (hn : rem.Nodup) {i : Nat} {k f v : Int} (hi : idx k f = i) (hm : most k f = some v) (hI : ∀ x y, idx x y = i → x = k ∧ y = f) : put2 (gOf rem) k f v = gOf (rem.erase i) := by
  subst hi
  funext x y
  unfold put2 gOf
  by_cases h : x = k ∧ y = f
  · obtain ⟨rfl, rfl⟩ := h
    simp [hn.mem_erase_iff, hm]
  · have : idx x y ≠ idx k f := fun e => h (hI x y e)
    simp [h, hn.mem_erase_iff, this]
theorem gOf_all : gOf [2, 4, 6, 8, 10, 12] = fun _ _ => none := by
  funext k f
  unfold gOf idx most
  (repeat' split) <;> simp_all
theorem gOf_nil : gOf [] = most := by funext k f; simp [gOf]
theorem idx_only (i : Nat) (k f : Int) (h : i ≠ 0 ∧ (i = 2 ∧ k = 1 ∧ f = 0 ∨ i = 4 ∧ k = 1 ∧ f = 1 ∨ i = 6 ∧ k = 2 ∧ f = 0 ∨ i = 8 ∧ k = 3 ∧ f = 0 ∨ i = 10 ∧ k = 4 ∧ f = 0 ∨ i = 12 ∧ k = 4 ∧ f = 2)) : ∀ x y, idx x y = i → x = k ∧ y = f := by
  intro x y e
  unfold idx at e
  (repeat' split at e) <;> omega
def Left (w : World) (b : Nat) (rem : List Nat) (w' : World) : Prop := ∃ n, n + rem.length = 6 ∧ SMap w' b n (gOf rem) ∧ Fr [] w w'
set_option maxHeartbeats 1600000 in
theorem slots_any (w : World) : Calls Try.prog 26 #[] w fun e w' => ∃ b, e = .returned (.map (some b)) ∧ w.heap.size ≤ b ∧ Slots w' b ∧ Fr [] w w' := by
  have hmm := @run_makeMap Try.prog
  go_enter Try.func26, Try.ntmps26
  go_wp2_with fail
  refine wp_region_env (by kernel_rfl) [] (fun w2 F2 => ?_)
  refine env_pass [false, true, false, true, false, true, false, true, false, true, false, true, false, false, false] 9 (n := 9) (listed' := #[false, true, false, true, false, true, false, true, false, true, false, true, false, false, false]) rfl (by kernel_rfl) (by kernel_rfl) (by kernel_rfl) rfl (by kernel_rfl) (fun _ _ d _ _ h => by cases d <;> exact h) F2 ?_
  apply Exists.intro
  refine ⟨fun wf Ff => ?_, ?_⟩
  · simp only [sel]
    repeat (go_big_quiet_step (fail))
    exact wpQuiet_nil rfl
  refine env_one 0 (by kernel_rfl) rfl rfl (fun w3 F3 => ?_)
  go_wp2
  have D := (F2.trans F3).alloc (.map #[] 0)
  have M := SMap.made w3
  have hb : w.heap.size ≤ w3.heap.size := (F2.trans F3).size
  generalize w3.alloc (.map #[] 0) = w4 at D M ⊢
  generalize w3.heap.size = b at M hb ⊢
  clear F2 F3
  refine nx_normal ⟨D, ?_⟩
  refine env_bag [2, 4, 6, 8, 10, 12] #[true, true, false, true, false, true, false, true, false, true, false, true, false, false, false] (Left w b) (f := 2) (by kernel_rfl) (fun rem w w2 ⟨n, h1, h2, h3⟩ F => ⟨n, h1, h2.kept F (by simp), h3.trans F⟩) ?_ ?_ 6 [2, 4, 6, 8, 10, 12] w4 rfl (List.Sublist.refl _) ⟨0, rfl, by rw [gOf_all]; exact M, D⟩
  · clear M D hmm
    rintro rem wr hs ⟨n, hn, M, D⟩ i hi o ho
    have hnd : rem.Nodup := hs.nodup (by decide)
    have hmem := hs.mem hi
    have hn6 : n < 1000 := by omega
    have hl := List.length_erase_of_mem hi
    have hl0 := List.length_pos_of_mem hi
    simp only [List.mem_cons, List.not_mem_nil, or_false] at hmem
    rcases hmem with rfl | rfl | rfl | rfl | rfl | rfl
    all_goals
      obtain rfl := Option.some.inj ho
      refine wpList_insertS rfl _ _ _ rfl _ _ _ rfl rfl rfl M (lt_max hn6) (wf_sm (by omega) (by omega)) (wf_sm (by omega) (by omega)) (wf_sm (by omega) (by omega)) ?_
      intro w6 M6 F6
      have D6 := D.own F6 (by simp; omega)
      first
        | rw [gOf_put hnd (i := 2) (k := 1) (f := 0) (v := 63) rfl rfl (idx_only _ _ _ (by omega))] at M6
        | rw [gOf_put hnd (i := 4) (k := 1) (f := 1) (v := 1048576) rfl rfl (idx_only _ _ _ (by omega))] at M6
        | rw [gOf_put hnd (i := 6) (k := 2) (f := 0) (v := 63) rfl rfl (idx_only _ _ _ (by omega))] at M6
        | rw [gOf_put hnd (i := 8) (k := 3) (f := 0) (v := 63) rfl rfl (idx_only _ _ _ (by omega))] at M6
        | rw [gOf_put hnd (i := 10) (k := 4) (f := 0) (v := 63) rfl rfl (idx_only _ _ _ (by omega))] at M6
        | rw [gOf_put hnd (i := 12) (k := 4) (f := 2) (v := 63) rfl rfl (idx_only _ _ _ (by omega))] at M6
      simp only [Act.put]
      exact nx_normal ⟨rfl, D6, n + 1, by omega, M6, D6⟩
  · clear M D hmm
    rintro wr ⟨n, hn, M, D⟩
    refine env_one 13 (by kernel_rfl) rfl rfl (fun w7 F7 => ?_)
    have M7 := M.kept F7 (by simp)
    have D7 := D.trans F7
    go_wp2
    refine nx_normal ⟨D7, ?_⟩
    refine env_one 14 (by kernel_rfl) rfl rfl (fun w8 F8 => ?_)
    have M8 := M7.kept F8 (by simp)
    have D8 := D7.trans F8
    go_wp2
    refine nx_normal ⟨D8, ?_⟩
    refine env_done (by kernel_rfl) (fun w9 F9 => ?_)
    go_wp2
    go_ret
    have hn6 : n = 6 := by simpa using hn
    subst hn6
    rw [gOf_nil] at M8
    exact ⟨b, rfl, hb, M8.kept F9 (by simp), D8.trans F9⟩
end Go.Proofs.Ytjhgjpkiinkaeaa.Og
