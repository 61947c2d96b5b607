/- Package keep's Sort; slices.Sorted(slices.Values(l)) at ints. -/
import Derived.Test.YteahponbknljlaaStab
import Derived.Test.YteahponbknljlaaValT
import Derived.Test.YteahponbknljlaaValI
namespace Go.Proofs.Yteahponbknljlaa.Kp
open Go.RowKit Go.Shelf Go.Lib Go.Sort Go.Maps Go.Proofs.Yteahponbknljlaa.Ar Go.Proofs.Yteahponbknljlaa.Mx
set_option linter.unusedVariables false
set_option linter.unusedSimpArgs false
/-- A list's cells, flat. -/
theorem get_flat (xs : List It) : ∀ (i c : Nat) (x : It), xs[i]? = some x → c < 3 → (xs.flatMap fT)[i * 3 + c]? = (fT x)[c]? := fun i c x hx hc => fT_lays.at hx hc
theorem holds_row {w : World} {b : Nat} {cur : Array Value} {T : TypeId} {xs : List It} (hb : w.heap[b]? = some (.cells cur T (0, 0))) (ht : cur.toList.take (xs.length * 3) = xs.flatMap fT) : HoldsK fT 3 w b 0 xs.toArray := by
  intro t ht2
  simp only [size_flatK, List.size_toArray] at ht2
  have hlen := fT_lays.flat xs
  obtain ⟨x, hx⟩ : ∃ x, xs[t / 3]? = some x := ⟨xs[t / 3]'(by omega), List.getElem?_eq_getElem _⟩
  have h1 := get_flat xs (t / 3) (t % 3) x hx (Nat.mod_lt _ (by omega))
  rw [show t / 3 * 3 + t % 3 = t by omega] at h1
  have h2 : cur.toList[t]? = (fT x)[t % 3]? := by
    rw [← h1, ← ht, List.getElem?_take, if_pos ht2]
  have h3 : (flatK fT 3 xs.toArray)[t]! = (fT x)[t % 3]! := by
    rw [get_flatK _ _ _ _ (by simpa using ht2)]
    congr 1
    simp [hx]
  have h4 : (fT x)[t % 3]? = some ((fT x)[t % 3]!) := by
    have : t % 3 < (fT x).length := by show _ < 3; omega
    simp [this]
  rw [h3]
  simp only [Nat.zero_add, id]
  constructor
  · unfold World.cell?
    rw [hb]
    have := h2.trans h4
    simp at this ⊢
    exact this
  · unfold World.frozen?
    rw [hb]
    simp
theorem flat_flatK (d : Array It) : (flatK fT 3 d).toList = d.toList.flatMap fT := by
  have hlen := fT_lays.flat d.toList
  apply List.ext_getElem?
  intro t
  by_cases ht : t < d.size * 3
  · obtain ⟨x, hx⟩ : ∃ x, d.toList[t / 3]? = some x := ⟨d.toList[t / 3]'(by simp; omega), List.getElem?_eq_getElem _⟩
    have h1 := get_flat d.toList (t / 3) (t % 3) x hx (Nat.mod_lt _ (by omega))
    rw [show t / 3 * 3 + t % 3 = t by omega] at h1
    rw [h1, Array.getElem?_toList]
    have h3 : (flatK fT 3 d)[t]! = (fT x)[t % 3]! := by
      rw [get_flatK _ _ _ _ ht]
      rw [Array.getElem?_toList] at hx
      have hx2 : d[t / 3]! = x := by rw [getElem!_def, hx]
      rw [hx2]
    have h4 : (fT x)[t % 3]? = some ((fT x)[t % 3]!) := by
      have : t % 3 < (fT x).length := by show _ < 3; omega
      simp [this]
    rw [h4, ← h3]
    have hz : t < (flatK fT 3 d).size := by simpa using ht
    rw [getElem!_pos _ t hz]
    exact Array.getElem?_eq_getElem hz
  · rw [List.getElem?_eq_none (by simp; omega), List.getElem?_eq_none (by rw [hlen]; simp; omega)]
theorem own_swk {w0 w' : World} {base b cap : Nat} {cur : Array Value} {E : TypeId} {n : Nat} {d' : Array It} (hbase : base ≤ b) (hb : w0.heap[b]? = some (.cells cur E (0, 0))) (h1 : n ≤ cap) (h2 : cap ≤ maxLen) (h3 : cur.size = cap * 3) (S : SWK fT 3 w0 b 0 d' w') (hs : d'.size = n) :
    w'.ownsRow base E 3 (.slice (some ⟨b, 0, none⟩) n cap) n (d'.toList.flatMap fT) ∧ Fr [b] w0 w' := by
  obtain ⟨m, os, rfl⟩ := S
  have hg : b < w0.heap.size := (Array.getElem?_eq_some_iff.1 hb).1
  refine ⟨⟨by rw [fT_lays.flat]; simp [hs], .inr ⟨b, cap, putCells id 0 (flatK fT 3 d') cur, rfl, hbase, ?_, h1, h2, by simp [putCells, h3], ?_⟩⟩, ?_⟩
  · unfold sortWorldK putRowK
    rw [heap_grow_old _ _ (by simpa using hg)]
    simp [putRow, mapBlock, Sort.ahead, Array.getElem?_modify, hb, onCells]
  · rw [← flat_flatK]
    have hz : (flatK fT 3 d').size = n * 3 := by simp [hs]
    generalize flatK fT 3 d' = F at *
    have hcap : n * 3 ≤ cur.size := by omega
    apply List.ext_getElem?
    intro j
    by_cases hj : j < n * 3
    · rw [List.getElem?_take_of_lt hj, Array.getElem?_toList, Array.getElem?_toList]
      simp [putCells, hz, hj, show j < cur.size by omega]
    · rw [List.getElem?_take_eq_none (by omega), List.getElem?_eq_none (by simp [hz]; omega)]
  · unfold sortWorldK putRowK
    refine ⟨rfl, rfl, rfl, by simp, fun k hk hne => ?_⟩
    rw [heap_grow_old _ _ (by simpa using hk)]
    have : b ≠ k := fun e => hne (by rw [e]; simp)
    simp [putRow, mapBlock, Sort.ahead, Array.getElem?_modify, this]
theorem rowK_of {w : World} {b : Nat} {cur : Array Value} {T : TypeId} {xs : List It} (hb : w.heap[b]? = some (.cells cur T (0, 0))) (ht : cur.toList.take (xs.length * 3) = xs.flatMap fT) : RowK fT 3 w b 0 xs.toArray :=
  ⟨fun _ => rfl, fun x u hu => fT_lays.one x u hu, holds_row hb ht, (Array.getElem?_eq_some_iff.1 hb).1⟩
theorem ins_nil (w : World) (c : Value) : Calls Try.prog 51 #[.slice none 0 0, .int .i64 0, .int .i64 0, c] w fun e w' => e = .returned (.tuple #[]) ∧ w' = w := by
  go_enter Try.func51, Try.ntmps51
  go_wp2_with fail
  go_loopw [8] (fun x wr => x = .int .i64 1 ∧ wr = w) (fun _ _ => 0)
  case atStart => exact ⟨rfl, rfl⟩
  case round =>
    obtain ⟨rfl, rfl⟩ := hrel
    go_wp2_with fail
    go_end0
    exact ⟨rfl, rfl⟩
set_option maxRecDepth 100000 in
set_option maxHeartbeats 1600000 in
theorem stable_nil (w : World) (c : Value) : Calls Try.prog 42 #[.slice none 0 0, .int .i64 0, c] w fun e w' => e = .returned (.tuple #[]) ∧ w' = w := by
  go_enter Try.func42, Try.ntmps42
  go_wp2_with fail
  go_loopw [7, 8] (fun x y wr => x = .int .i64 0 ∧ y = .int .i64 20 ∧ wr = w) (fun _ _ _ => 0)
  case atStart => exact ⟨rfl, rfl, rfl⟩
  case round =>
    obtain ⟨rfl, rfl, rfl⟩ := hrel
    go_wp2_with (go_at_call 51; refine (ins_nil _ _).mono ?_; rintro e w' ⟨rfl, rfl⟩)
    go_loopw [6] (fun x wr2 => x = .int .i64 20 ∧ wr2 = w') (fun _ _ => 0)
    case atStart => exact ⟨rfl, rfl⟩
    case round =>
      obtain ⟨rfl, rfl⟩ := hrel
      go_wp2_with fail
      go_end0
      exact ⟨rfl, rfl⟩
theorem ssf_any (u : Value) (xs : List It) (w : World) (B : Nat) (h : w.ownsRow B 26 3 u xs.length (xs.flatMap fT)) (hl : xs.length ≤ 40) :
    Calls Try.prog 30 #[u, .func (.func 22) #[] #[]] w fun e w' =>
      e = .returned (.tuple #[]) ∧ w'.ownsRow B 26 3 u (sortT xs).length ((sortT xs).flatMap fT) ∧ Fr u.ownBlock.toList w w' := by
  rcases h.2 with ⟨rfl, h0⟩ | ⟨g, cap, cur, rfl, hbase, hb, h1, h2, h3, h4⟩
  · obtain rfl := List.eq_nil_of_length_eq_zero h0
    go_enter Try.func30, Try.ntmps30
    go_wp2_with (go_at_call 42; refine (stable_nil _ _).mono ?_; rintro e w' ⟨rfl, rfl⟩)
    go_end0
    exact ⟨rfl, h, Fr.refl _ _⟩
  · have R := rowK_of hb h4
    have H := stable_any g 0 cap xs.length xs.toArray xs.toArray w w R rfl (SWK.start R.hH) (by simp) hl
    have HB := Lib.hid (And.intro hbase (And.intro hb (And.intro h1 (And.intro h2 h3))))
    clear h h1 h2 h3 h4 R hb hbase
    go_enter Try.func30, Try.ntmps30
    go_wp2_with (go_at_call 42; refine H.mono ?_; rintro e w' ⟨rfl, d', ⟨hd, hs⟩, S⟩)
    go_end0
    obtain ⟨hbase, hb, h1, h2, h3⟩ := HB.out
    obtain ⟨o1, o2⟩ := own_swk hbase hb h1 h2 h3 S (by simpa using hs)
    rw [hd] at o1
    rw [sortT_length]
    exact ⟨rfl, o1, o2.mono (by simp [Value.ownBlock])⟩
theorem fr_own {S : List Nat} {a b c : World} (h : Fr [] a b) (k : Fr S b c) (hs : ∀ i, i ∈ S → a.heap.size ≤ i) : Fr [] a c := h.own k hs
theorem own_lt {w : World} {B sz n : Nat} {E : TypeId} {v : Value} {cs : List Value} (h : w.ownsRow B E sz v n cs) : ∀ i, i ∈ v.ownBlock.toList → B ≤ i := by
  intro i hi
  rcases h.2 with ⟨rfl, _⟩ | ⟨g, cap, cur, rfl, hb, _⟩
  · simp [Value.ownBlock] at hi
  · simp [Value.ownBlock] at hi; omega
set_option maxHeartbeats 1600000 in
/-- slices.SortedStableFunc(seq, compare). -/
theorem sstable_any (g : Nat) (lb : Array Value) (eg : ∀ args w, (callFunc g args).run Try.prog w = .ok (.enter g args) w) (S : List It → Prop) (N : Nat) (hN : N ≤ 1000) (w : World) (hseq : Feeds 3 Try.prog g lb ApT.enc S N w) (hS : ∀ ss, S ss → ss.length ≤ 40) :
    Calls Try.prog 20 #[.func (.func g) #[] lb, .func (.func 22) #[] #[]] w fun e w' => ∃ u ss, e = .returned u ∧ S ss ∧ w'.ownsRow w.heap.size 26 3 u (sortT ss).length ((sortT ss).flatMap fT) ∧ Fr [] w w' := by
  have H := callsIn_wide.1 (ApT.collect 5 (by omega) g lb eg S N hN w hseq)
  clear hseq
  go_enter Try.func20, Try.ntmps20
  go_wp2_with fail
  refine H.mono ?_
  rintro e w1 ⟨u, ss, rfl, hs, hrow, hb⟩
  have H2 := ssf_any u ss w1 w.heap.size hrow (hS ss hs)
  have F1 := ApT.fr_of hb
  have HO := Lib.hid (own_lt hrow)
  clear H hrow hb
  go_wp2_with fail
  refine H2.mono ?_
  rintro e w2 ⟨rfl, hrow2, F2⟩
  have F3 := F1.own F2 HO.out
  clear H2
  go_wp2_with fail
  go_ret
  exact ⟨u, ss, rfl, hs, hrow2, F3⟩
set_option maxHeartbeats 1600000 in
/-- Package keep's Sort. -/
theorem sort8_any (l : List It) (v : Value) (w : World) (hl : l.length ≤ 40) (h : Sq fT w v l) :
    Calls Try.prog 13 #[v] w fun e w' => (∃ u, e = .returned u ∧ w'.ownsRow w.heap.size 26 3 u (sortT l).length ((sortT l).flatMap fT)) ∧ Fr [] w w' := by
  obtain ⟨av, cv, rfl, hcv, hmv, -⟩ := id h
  have F0 := (Fr.refl [] w).alloc (.cells #[.slice av l.length cv] 22)
  have hm := (cell_of_box_a (Go.heap_alloc_new w (.cells #[.slice av l.length cv] 22))).1
  have hf := ApT.feeds 3 (by omega) w.heap.size _ l _ hm (h.up F0) (by omega)
  have H := sstable_any _ _ (enters_of Try.func31 (by kernel_rfl) rfl) _ _ (by omega) _ hf (fun ss e => by rw [e]; exact hl)
  clear hf hm h
  go_enter Try.func13, Try.ntmps13
  go_wp2_with fail
  refine (ApT.values_any av l.length cv w).mono ?_
  rintro e _ ⟨rfl, rfl⟩
  go_wp2_with fail
  refine H.mono ?_
  rintro e w2 ⟨u, ss, rfl, hs, hrow, F⟩
  subst hs
  clear H
  have hrow2 : w2.ownsRow w.heap.size 26 3 u (sortT ss).length ((sortT ss).flatMap fT) := by
    refine ⟨hrow.1, hrow.2.imp id ?_⟩
    rintro ⟨g, cap, cur, e1, e2, e3⟩
    exact ⟨g, cap, cur, e1, by simp at e2; omega, e3⟩
  clear hrow
  go_wp2_with fail
  go_ret
  exact ⟨⟨u, rfl, hrow2⟩, F0.trans F⟩
end Go.Proofs.Yteahponbknljlaa.Kp
