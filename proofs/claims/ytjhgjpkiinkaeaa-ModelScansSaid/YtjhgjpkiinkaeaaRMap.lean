/- The reference's map: of each key its value, -1 of none, and who wrote it, -1 of nobody. -/
import Derived.Test.YtjhgjpkiinkaeaaPairs
import Derived.Test.YtjhgjpkiinkaeaaEnv
namespace Go.Proofs.Ytjhgjpkiinkaeaa.Mp
open Go.RowKit Go.Proofs.Ytjhgjpkiinkaeaa.Ar
set_option linter.unusedVariables false
set_option linter.unusedSimpArgs false
def upd (f : Nat → Int) (k : Nat) (v : Int) : Nat → Int := fun i => if i = k then v else f i
/-- At block p the reference's map lies. -/
def Rm (w : World) (p : Nat) (V W : Nat → Int) : Prop := ∃ Z : Array Value, w.heap[p]? = some (.cells Z 41 (0, 0)) ∧ Z.size = 128 ∧ ∀ k, k < 64 → Z[k]? = some (.int .i64 (V k)) ∧ Z[64 + k]? = some (.int .i64 (W k))
theorem Rm.kept {S : List Nat} {w w' : World} {p : Nat} {V W : Nat → Int} (h : Rm w p V W) (f : Fr S w w') (hp : p ∉ S) : Rm w' p V W := by
  obtain ⟨Z, h1, h2, h3⟩ := h
  exact ⟨Z, f.heap h1 hp, h2, h3⟩
theorem Rm.lt {w : World} {p : Nat} {V W : Nat → Int} (h : Rm w p V W) : p < w.heap.size := by
  obtain ⟨Z, h1, _⟩ := h; exact (Array.getElem?_eq_some_iff.1 h1).1
theorem Rm.cellV {w : World} {p : Nat} {V W : Nat → Int} (h : Rm w p V W) {k : Nat} (hk : k < 64) : w.cell? ⟨p, k, none⟩ = some (.int .i64 (V k)) := by
  obtain ⟨Z, h1, h2, h3⟩ := h
  rw [cell_of_row _ _ _ _ _ _ h1]; exact (h3 k hk).1
theorem Rm.cellW {w : World} {p : Nat} {V W : Nat → Int} (h : Rm w p V W) {k : Nat} (hk : k < 64) : w.cell? ⟨p, 64 + k, none⟩ = some (.int .i64 (W k)) := by
  obtain ⟨Z, h1, h2, h3⟩ := h
  rw [cell_of_row _ _ _ _ _ _ h1]; exact (h3 k hk).2
theorem Rm.frozen {w : World} {p : Nat} {V W : Nat → Int} (h : Rm w p V W) (j : Nat) : w.frozen? ⟨p, j, none⟩ = false := by
  obtain ⟨Z, h1, _⟩ := h; exact frozen_of_row _ _ _ _ _ h1
theorem Rm.setV {w : World} {p : Nat} {V W : Nat → Int} (h : Rm w p V W) {k : Nat} (hk : k < 64) (v : Int) : Rm (w.setCell ⟨p, k, none⟩ (.int .i64 v)) p (upd V k v) W := by
  obtain ⟨Z, h1, h2, h3⟩ := h
  refine ⟨_, heap_setCell_same _ _ _ _ _ _ h1, by simpa using h2, fun i hi => ?_⟩
  unfold upd
  constructor
  · by_cases e : i = k
    · subst e; rw [if_pos rfl, Array.getElem?_setIfInBounds_self_of_lt (by omega)]
    · rw [if_neg e, Array.getElem?_setIfInBounds_ne (by omega)]; exact (h3 i hi).1
  · rw [Array.getElem?_setIfInBounds_ne (by omega)]; exact (h3 i hi).2
theorem Rm.setW {w : World} {p : Nat} {V W : Nat → Int} (h : Rm w p V W) {k : Nat} (hk : k < 64) (v : Int) : Rm (w.setCell ⟨p, 64 + k, none⟩ (.int .i64 v)) p V (upd W k v) := by
  obtain ⟨Z, h1, h2, h3⟩ := h
  refine ⟨_, heap_setCell_same _ _ _ _ _ _ h1, by simpa using h2, fun i hi => ?_⟩
  unfold upd
  constructor
  · rw [Array.getElem?_setIfInBounds_ne (by omega)]; exact (h3 i hi).1
  · by_cases e : i = k
    · subst e; rw [if_pos rfl, Array.getElem?_setIfInBounds_self_of_lt (by omega)]
    · rw [if_neg e, Array.getElem?_setIfInBounds_ne (by omega)]; exact (h3 i hi).2
def none1 : Nat → Int := fun _ => -1
/-- Where the loop that lays -1 stands. -/
def NmAt (w : World) (p : Nat) (x : Value) (wr : World) : Prop := ∃ (k : Nat) (V W : Nat → Int), k ≤ 64 ∧ x = .int .i64 k ∧ Rm wr p V W ∧ Fr [] w wr ∧ ∀ i, i < k → V i = -1 ∧ W i = -1
theorem zero_map : ∃ Z : Array Value, (∀ W : World, (zeroValue 41).run Try.prog W = .ok (.agg Z) W) ∧ Z.size = 128 ∧ ∀ k, k < 128 → Z[k]? = some (.int .i64 0) := by
  refine ⟨Array.replicate 128 (.int .i64 0), fun W => by kernel_rfl, by simp, fun k hk => ?_⟩
  rw [Array.getElem?_replicate, if_pos hk]
set_option maxRecDepth 100000 in
set_option maxHeartbeats 8000000 in
theorem newMap_any (w : World) : Calls Try.prog 10 #[] w fun e w' => ∃ p, e = .returned (.pointer (some ⟨p, 0, none⟩)) ∧ w.heap.size ≤ p ∧ Rm w' p none1 none1 ∧ Fr [] w w' := by
  obtain ⟨Z, hz, hs, h0⟩ := zero_map
  go_enter Try.func10, Try.ntmps10
  go_wp2_with fail
  have hR : Rm (w.alloc (.cells Z 41)) w.heap.size (fun _ => 0) (fun _ => 0) := ⟨Z, Go.heap_alloc_new w _, hs, fun k hk => ⟨h0 k (by omega), h0 (64 + k) (by omega)⟩⟩
  have hF : Fr [] w (w.alloc (.cells Z 41)) := (Fr.refl [] w).alloc _
  clear hz hs h0
  generalize (w.alloc (.cells Z 41)) = w1 at *
  generalize hpe : w.heap.size = p at hR ⊢
  have hp : w.heap.size ≤ p := by omega
  go_loopw [2] (NmAt w p) (fun x _ => 64 - (intOf x).toNat)
  case atStart => exact ⟨0, _, _, by omega, rfl, hR, hF, by omega⟩
  case round =>
    obtain ⟨k, V, W, hk, rfl, R, G, hl⟩ := hrel
    clear hR hF
    by_cases hlt : k < 64
    · have g : decide ((k : Int) ≤ 63) = true := by simp; omega
      go_wp2_with fail
      have hlp : p < wr.heap.size := R.lt
      refine wp_region_env (by kernel_rfl) [p] (fun w2 F2 => ?_)
      refine env_pass [true, true, true, true, true, true, true, false, true, true, false, false] 3 (n := 20) (listed' := #[true, true, true, true, true, true, true, false, true, true, false, false]) rfl (by kernel_rfl) (by kernel_rfl) (by kernel_rfl) rfl (by kernel_rfl) (fun _ _ d _ _ h => by cases d <;> exact h) (F2.mono (by simp)) ?_
      apply Exists.intro
      refine ⟨fun wf Ff => ?_, ?_⟩
      · simp only [sel]
        repeat (go_big_quiet_step (fail))
        exact wpQuiet_nil rfl
      refine env_one 7 (by kernel_rfl) rfl rfl (fun w3 F3 => ?_)
      have R3 := R.kept (F2.trans F3) (by simp)
      have G3 := G.trans (F2.trans F3)
      have D3 := F2.trans F3
      have c0 := R3.cellV hlt
      have z0 := R3.frozen k
      clear F2 F3 R G
      go_wp2
      have R4 := R3.setV hlt (-1)
      have E4 : Fr [p] w3 (w3.setCell ⟨p, k, none⟩ (.int .i64 (-1))) := Fr.setCell _ (List.mem_singleton.2 rfl)
      generalize (w3.setCell ⟨p, k, none⟩ (.int .i64 (-1))) = w4 at *
      have D4 := (D3.mono (T := [p]) (by simp)).trans E4
      have G4 := G3.own E4 (fun i hi => by rw [List.mem_singleton.1 hi]; exact hp)
      clear c0 z0 R3 G3 D3 E4
      refine nx_normal ⟨D4, ?_⟩
      refine env_one 10 (by kernel_rfl) rfl rfl (fun w5 F5 => ?_)
      have R5 := R4.kept F5 (by simp)
      have D5 := D4.then F5
      have G5 := G4.trans F5
      clear R4 D4 G4 F5
      go_wp2
      refine nx_normal ⟨D5, ?_⟩
      refine env_one 11 (by kernel_rfl) rfl rfl (fun w6 F6 => ?_)
      have R6 := R5.kept F6 (by simp)
      have D6 := D5.then F6
      have G6 := G5.trans F6
      clear R5 D5 G5 F6
      have c0 := R6.cellW hlt
      have z0 := R6.frozen (64 + k)
      go_wp2
      have R7 := R6.setW hlt (-1)
      have E7 : Fr [p] w6 (w6.setCell ⟨p, 64 + k, none⟩ (.int .i64 (-1))) := Fr.setCell _ (List.mem_singleton.2 rfl)
      generalize (w6.setCell ⟨p, 64 + k, none⟩ (.int .i64 (-1))) = w7 at *
      have D7 := D6.trans E7
      have G7 := G6.own E7 (fun i hi => by rw [List.mem_singleton.1 hi]; exact hp)
      clear c0 z0 R6 G6 D6 E7
      refine nx_normal ⟨D7, ?_⟩
      refine env_done (by kernel_rfl) (fun w8 F8 => ?_)
      have R8 := R7.kept F8 (by simp)
      have G8 := G7.trans F8
      clear R7 G7 D7 F8
      go_wp2
      refine ⟨⟨k + 1, _, _, by omega, by go_num, R8, G8, fun i hi => ?_⟩, by simp [intOf]; omega⟩
      unfold upd
      by_cases e : i = k
      · simp [e]
      · simp only [if_neg e]; exact hl i (by omega)
    · obtain rfl : k = 64 := by omega
      have eV : Rm wr p none1 none1 := by
        obtain ⟨Z, h1, h2, h3⟩ := R
        refine ⟨Z, h1, h2, fun i hi => ?_⟩
        obtain ⟨a, b⟩ := h3 i hi
        rw [(hl i hi).1] at a; rw [(hl i hi).2] at b
        exact ⟨a, b⟩
      go_wp2
      go_ret
      exact ⟨p, rfl, by omega, eV, G⟩
/-! ### What an op does -/
/-- The pairs of the first n keys from lo on. -/
def prs (V : Nat → Int) (lo : Nat) : Nat → List (Int × Int)
  | 0 => []
  | n + 1 => prs V lo n ++ (if 0 ≤ V (lo + n) then [(((lo + n : Nat) : Int), V (lo + n))] else [])
def scan (V : Nat → Int) (lo hi : Nat) : List (Int × Int) := prs V lo (hi + 1 - lo)
theorem prs_length (V : Nat → Int) (lo n : Nat) : (prs V lo n).length ≤ n := by
  induction n with
  | zero => simp [prs]
  | succ n ih => unfold prs; split <;> simp <;> omega
/-- The answer to an op that may be. -/
def doA (V W : Nat → Int) (k ky v t : Int) : An :=
  if k = 3 then ⟨0, decide (0 ≤ V ky.toNat), max 0 (V ky.toNat), W ky.toNat, 0, []⟩ else if k = 4 then ⟨0, false, 0, -1, 0, scan V ky.toNat t.toNat⟩ else ⟨0, false, 0, -1, 0, []⟩
def doV (V : Nat → Int) (k ky v : Int) : Nat → Int := if k = 1 then upd V ky.toNat v else if k = 2 then upd V ky.toNat (-1) else V
def doW (W : Nat → Int) (k ky wr : Int) : Nat → Int := if k = 1 ∨ k = 2 then upd W ky.toNat wr else W
def badA : An := ⟨10, false, 0, 0, 0, []⟩
end Go.Proofs.Ytjhgjpkiinkaeaa.Mp
