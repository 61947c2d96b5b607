/- Package armillaryref1's arena: what each function answers, and what becomes of it: the same as package arena's. -/
import Derived.Test.YtafmcilonpkpbaaDoorArena
namespace Go.Proofs.YtafmcilonpkpbaaDoor.Ref
open Go.RowKit Go.Proofs.YtafmcilonpkpbaaDoor.Ar
def rarHead (s : St) (q cap : Nat) : Array Value :=
  #[.slice (some ⟨q, 0, none⟩) s.l.length cap, .int .i64 s.n, .int .i64 s.a.kind, .int .i64 s.a.at_, .int .i64 s.a.old, .int .i64 s.a.new, .bool s.a.ok]
/-- At block p an arena of the reference lies, its words in block q. -/
structure Rar (w : World) (p q : Nat) (s : St) : Prop where
  ne : p ≠ q
  lo : 1 ≤ s.l.length
  hi : s.l.length ≤ 20000
  mem : ∃ cap c, w.heap[p]? = some (.cells (rarHead s q cap) 55 (0, 0)) ∧ s.l.length ≤ cap ∧ cap ≤ maxLen ∧
    w.heap[q]? = some (.cells c 3 (0, 0)) ∧ c.size = cap ∧ ∀ i, i < s.l.length → c[i]? = some (.int .i64 (nth s.l i))
theorem Rar.lt {w : World} {p q : Nat} {s : St} (h : Rar w p q s) : p < w.heap.size ∧ q < w.heap.size := by
  obtain ⟨ne, lo, hi, cap, c, hp, hc1, hc2, hq, hs, hc⟩ := h
  exact ⟨(Array.getElem?_eq_some_iff.1 hp).1, (Array.getElem?_eq_some_iff.1 hq).1⟩
theorem rarCells {w : World} {p q : Nat} {s : St} (h : Rar w p q s) : ∃ cap, s.l.length ≤ cap ∧ w.cell? ⟨p, 0, none⟩ = some (.slice (some ⟨q, 0, none⟩) s.l.length cap) ∧ w.cell? ⟨p, 1, none⟩ = some (.int .i64 s.n) ∧ w.cell? ⟨p, 2, none⟩ = some (.int .i64 s.a.kind) ∧
    w.cell? ⟨p, 3, none⟩ = some (.int .i64 s.a.at_) ∧ w.cell? ⟨p, 4, none⟩ = some (.int .i64 s.a.old) ∧ w.cell? ⟨p, 5, none⟩ = some (.int .i64 s.a.new) ∧ w.cell? ⟨p, 6, none⟩ = some (.bool s.a.ok) ∧ ∀ i, i < s.l.length → w.cell? ⟨q, i, none⟩ = some (.int .i64 (nth s.l i)) := by
  obtain ⟨ne, lo, hi, cap, c, hp, hc1, hc2, hq, hs, hc⟩ := h
  exact ⟨cap, hc1, by rw [cell_of_row w p 0 _ _ _ hp]; rfl, by rw [cell_of_row w p 1 _ _ _ hp]; rfl, by rw [cell_of_row w p 2 _ _ _ hp]; rfl, by rw [cell_of_row w p 3 _ _ _ hp]; rfl, by rw [cell_of_row w p 4 _ _ _ hp]; rfl, by rw [cell_of_row w p 5 _ _ _ hp]; rfl, by rw [cell_of_row w p 6 _ _ _ hp]; rfl,
    fun i hi => by rw [cell_of_row w q i _ _ _ hq]; exact hc i hi⟩
theorem Rar.kept {w w' : World} {p q : Nat} {s : St} {S : List Nat} (h : Rar w p q s) (f : Fr S w w') (hp : p ∉ S) (hq : q ∉ S) : Rar w' p q s := by
  have hlt := h.lt
  obtain ⟨ne, lo, hi, cap, c, h1, h2, h3, h4, h5, h6⟩ := h
  exact ⟨ne, lo, hi, cap, c, (f.block p hlt.1 hp).trans h1, h2, h3, (f.block q hlt.2 hq).trans h4, h5, h6⟩
theorem has_in (w : World) (p q : Nat) (s : St) (k : Nat) (h : Rar w p q s) (hk : k < s.l.length) :
    Calls Tryd.prog 48 #[.pointer (some ⟨p, 0, none⟩), .int .i64 k] w fun e w' => e = .returned (.bool true) ∧ w = w' := by
  obtain ⟨ne, lo, hi, cap, c, hp, hc1, hc2, hq, hs, hc⟩ := h
  have h0 : w.cell? ⟨p, 0, none⟩ = some (.slice (some ⟨q, 0, none⟩) s.l.length cap) := by rw [cell_of_row w p 0 _ _ _ hp]; rfl
  clear hp hq hc
  go_enter Tryd.func48, Tryd.ntmps48
  go_wp2
  go_ret
  exact ⟨rfl, rfl⟩
theorem has_out (w : World) (p q : Nat) (s : St) (k : Int) (h : Rar w p q s) (hk : k < 0 ∨ s.l.length ≤ k) :
    Calls Tryd.prog 48 #[.pointer (some ⟨p, 0, none⟩), .int .i64 k] w fun e w' => e = .returned (.bool false) ∧ w = w' := by
  obtain ⟨ne, lo, hi, cap, c, hp, hc1, hc2, hq, hs, hc⟩ := h
  have h0 : w.cell? ⟨p, 0, none⟩ = some (.slice (some ⟨q, 0, none⟩) s.l.length cap) := by rw [cell_of_row w p 0 _ _ _ hp]; rfl
  clear hp hq hc
  by_cases hk0 : k < 0
  · clear hk
    go_enter Tryd.func48, Tryd.ntmps48
    go_wp2
    go_ret
    exact ⟨rfl, rfl⟩
  · have hf : decide (k < (s.l.length : Int)) = false := by simp; omega
    have hk1 : 0 ≤ k := by omega
    clear hk hk0
    go_enter Tryd.func48, Tryd.ntmps48
    go_wp2
    go_ret
    exact ⟨by simp, rfl⟩
theorem has_any (w : World) (p q : Nat) (s : St) (i : Int) (h : Rar w p q s) :
    Calls Tryd.prog 48 #[.pointer (some ⟨p, 0, none⟩), .int .i64 i] w fun e w' => e = .returned (.bool (isAt s.l i)) ∧ w = w' := by
  rcases isAt_cases s.l i with ⟨k, rfl, hk, e⟩ | ⟨hk, e⟩
  · rw [e]; exact has_in w p q s k h hk
  · rw [e]; exact has_out w p q s i h hk
theorem poke_any (w : World) (p q : Nat) (s : St) (i v : Int) (h : Rar w p q s) :
    Calls Tryd.prog 37 #[.pointer (some ⟨p, 0, none⟩), .int .i64 i, .int .i64 v] w fun e w' => e = .returned (.tuple #[]) ∧ Rar w' p q (s.poke i v) ∧ Fr [q] w w' := by
  have h' := h
  obtain ⟨ne, lo, hi, cap, c, hp, hc1, hc2, hq, hs, hc⟩ := h
  have h0 : w.cell? ⟨p, 0, none⟩ = some (.slice (some ⟨q, 0, none⟩) s.l.length cap) := by rw [cell_of_row w p 0 _ _ _ hp]; rfl
  rcases isAt_cases s.l i with ⟨k, rfl, hk, e⟩ | ⟨hk, e⟩
  · have h1 : w.cell? ⟨q, k, none⟩ = some (.int .i64 (nth s.l k)) := by rw [cell_of_row w q _ _ _ _ hq]; exact hc k hk
    have h2 : w.frozen? ⟨q, k, none⟩ = false := frozen_of_row _ _ _ _ _ hq
    have A1 : Rar (w.setCell ⟨q, k, none⟩ (.int .i64 v)) p q (s.poke k v) := by
      refine ⟨ne, by simp [St.poke, length_poke]; exact lo, by simp [St.poke, length_poke]; exact hi, cap, _, ?_, by simpa [St.poke, length_poke] using hc1, hc2, heap_setCell_same _ _ _ _ _ _ hq, by simpa using hs, ?_⟩
      · rw [heap_setCell_other _ _ _ _ ne]; simpa [rarHead, St.poke, length_poke] using hp
      · intro j hj
        simp only [St.poke, length_poke] at hj
        simp only [St.poke, poke_at v hk, Array.getElem?_setIfInBounds, hc j hj, nth, List.getD_eq_getElem?_getD, List.getElem?_set]
        split
        · rename_i hkj; subst hkj
          rw [if_pos (by rw [hs]; omega)]; rfl
        · rfl
    have F1 : Fr [q] w (w.setCell ⟨q, k, none⟩ (.int .i64 v)) := Fr.setCell _ (by simp)
    clear hp hq hc e
    go_enter Tryd.func37, Tryd.ntmps37
    go_wp2_with (go_at_call 48; refine (has_in _ p q s k h' hk).mono ?_; rintro e w' ⟨rfl, rfl⟩)
    go_end0
    exact ⟨rfl, A1, F1⟩
  · have A1 : Rar w p q (s.poke i v) := by rw [show s.poke i v = s by simp [St.poke, poke_no v e]]; exact h'
    clear hp hq hc e
    go_enter Tryd.func37, Tryd.ntmps37
    go_wp2_with (go_at_call 48; refine (has_out _ p q s i h' hk).mono ?_; rintro e w' ⟨rfl, rfl⟩)
    go_end0
    exact ⟨rfl, A1, Fr.refl _ _⟩
def RMade (w : World) (s : St) (e : Ending) (w' : World) : Prop := ∃ p q, e = .returned (.pointer (some ⟨p, 0, none⟩)) ∧ w.heap.size ≤ p ∧ w.heap.size ≤ q ∧ Rar w' p q s ∧ Fr [] w w'
theorem intInfo : (Tryd.prog.info? 3).map (fun i => (i.zero, i.size, i.bytes)) = some (some (.int .i64 0), 1, 8) := by kernel_rfl
theorem made_rar {w w1 : World} (n : Nat) (lo : 1 ≤ n) (hi : n ≤ 20000) (hown : w1.ownsRow 0 3 1 (.slice (some ⟨w.heap.size, 0, none⟩) n n) n (madeCells (Value.int .i64 0).cells (n * 1)).toList) (hg : w.grownBy w1 none) (hne : w.heap.size < w1.heap.size) :
    RMade w (St.fresh n) (.returned (.pointer (some ⟨w1.heap.size, 0, none⟩))) (w1.alloc (.cells #[.slice (some ⟨w.heap.size, 0, none⟩) n n, .int .i64 0, .int .i64 0, .int .i64 0, .int .i64 0, .int .i64 0, .bool false] 55)) := by
  refine ⟨w1.heap.size, w.heap.size, rfl, by omega, Nat.le_refl _, ?_, (Fr.grown hg).alloc _⟩
  obtain ⟨h1, h2⟩ := hown
  rcases h2 with ⟨h2, _⟩ | ⟨g, cap, cur, hv, -, hh, hc1, hc2, hsz, htk⟩
  · cases h2
  · simp only [Value.slice.injEq, Option.some.injEq, Addr.mk.injEq] at hv
    obtain ⟨⟨rfl, -, -⟩, -, rfl⟩ := hv
    refine ⟨by omega, by simpa [St.fresh] using lo, by simpa [St.fresh] using hi, n, cur, ?_, by simp [St.fresh], hc2, ?_, by simpa using hsz, ?_⟩
    · rw [Go.heap_alloc_new]; simp [rarHead, St.fresh]
    · rw [heap_alloc_old _ _ hne]; exact hh
    · intro i hi'
      simp only [St.fresh, List.length_replicate] at hi'
      have e1 : cur.toList[i]? = (madeCells (Value.int .i64 0).cells (n * 1)).toList[i]? := by
        rw [← htk, List.getElem?_take_of_lt (by omega)]
      rw [show (Value.int .i64 0).cells = #[.int .i64 0] from rfl, toList_madeCells_one, List.getElem?_replicate, if_pos (by omega)] at e1
      rw [Array.getElem?_toList] at e1
      rw [e1, nth, St.fresh, List.getD_eq_getElem?_getD, List.getElem?_replicate, if_pos hi']
      rfl
theorem held_any (n : Nat) (i : Int) (hn : (i < 1 ∧ n = 1) ∨ (1 ≤ i ∧ i ≤ 20000 ∧ i = n) ∨ (20000 < i ∧ n = 20000)) (w : World) :
    Calls Tryd.prog 47 #[.int .i64 i, .int .i64 1, .int .i64 20000] w fun e w' => e = .returned (.int .i64 n) ∧ w = w' := by
  rcases hn with ⟨h1, rfl⟩ | ⟨h1, h2, rfl⟩ | ⟨h1, rfl⟩
  all_goals
    go_enter Tryd.func47, Tryd.ntmps47
    go_wp2
    all_goals go_ret
    all_goals (first | exact ⟨rfl, rfl⟩ | exact ret_int (by omega))
theorem new_at (n : Nat) (i : Int) (lo : 1 ≤ n) (hi : n ≤ 20000) (hn : (i < 1 ∧ n = 1) ∨ (1 ≤ i ∧ i ≤ 20000 ∧ i = n) ∨ (20000 < i ∧ n = 20000)) (w : World) :
    Calls Tryd.prog 36 #[.int .i64 i] w (RMade w (St.fresh n)) := by
  obtain ⟨i0, h0, hz0, hz1, hz2⟩ := info_parts intInfo
  have HH := held_any n i hn w
  clear hn
  go_enter Tryd.func36, Tryd.ntmps36
  go_wp2_with (first | (go_at_call 47; refine HH.mono ?_; rintro e w' ⟨rfl, rfl⟩) | (at_make; refine wpList_make_full _ rfl _ _ 51 rfl 0 3 i0 (.int .i64 0) 1 Tryd.underlying51 h0 hz0 hz1 _ _ _ _ n rfl rfl rfl rfl (by rw [hz2]; omega) (by unfold maxLen; omega) (Nat.zero_le _) ?_; intro w1 hown hg; have hM := made_rar n lo hi hown hg (own_lt hown); clear hown))
  go_ret
  exact hM
theorem new_any (i : Int) (w : World) : Calls Tryd.prog 36 #[.int .i64 i] w (RMade w (St.fresh (wordsOf i))) :=
  new_at _ i (wordsOf_bd i).1 (wordsOf_bd i).2 (by unfold wordsOf; omega) w
end Go.Proofs.YtafmcilonpkpbaaDoor.Ref
