/- Package keep's map from a key and a version to the last item of both; what its values are. -/
import Derived.Test.YteahponbknljlaaSearch8
import Derived.WideKeyPair
import Derived.DeepKeys4
import Derived.Sort.MapsRangeIn
namespace Go.Proofs.Yteahponbknljlaa.Kp
open Go.RowKit Go.Maps Go.Sort Go.Shelf Go.Proofs.Yteahponbknljlaa.Ar Go.Proofs.Yteahponbknljlaa.Mx
set_option linter.unusedVariables false
set_option linter.unusedSimpArgs false
theorem ownsK : laidOutB Try.prog = true := by kernel_rfl
theorem rowS : 62 < Try.prog.types.size := of_decide_eq_true (by kernel_rfl)
theorem keyS : Try.prog.keyTypeAt 2 62 = true := by kernel_rfl
theorem slotK : Keyed Try.prog 62 := Keyed.of_law (deep_law_laid ownsK (m := 2) (by omega) rowS keyS (by rw [Try.underlying62]))
def sv (k f : Int) : Value := .agg #[.int .i64 k, .int .i64 f]
def sl (k f : Int) : Lit := .string (keyBytes [.int .i64 k, .int .i64 f])
/-- Both numbers are ints. -/
def Wf (k f : Int) : Prop := (Lit.int .i64 k).wf = true ∧ (Lit.int .i64 f).wf = true
theorem keyOf_sv {k f : Int} (h : Wf k f) : keyOf Try.prog 62 (sv k f) = some (sl k f) := by
  obtain ⟨hk, hf⟩ := h
  have hkt : Try.prog.keyType 62 = true := by kernel_rfl
  have hfo : (sv k f).formed Try.prog 62 = true := by kernel_rfl
  have h2 : Try.prog.cellsOf 62 = 2 := by kernel_rfl
  have h1 : Try.prog.cellsOf 3 = 1 := by kernel_rfl
  obtain ⟨m, hm⟩ : ∃ m, Try.prog.types.size = m + 2 := ⟨Try.prog.types.size - 2, by kernel_rfl⟩
  unfold keyOf
  simp only [Try.underlying62]
  rw [if_pos (by simp [hkt, hfo]), hm]
  unfold Program.keyLits
  simp only [Try.underlying62, sv, Value.cells]
  rw [if_pos ⟨by rw [h2]; rfl, by decide +kernel⟩]
  simp [h1, Program.keyLits, Try.underlying3, hk, hf, sl]
theorem sl_inj {k f k' f' : Int} (h1 : Wf k f) (h2 : Wf k' f') (h : sl k f = sl k' f') : k = k' ∧ f = f' := by
  have := slotK.inj (keyOf_sv h1) ((keyOf_sv h2).trans (by rw [h]))
  unfold sv at this
  simpa using this
theorem sl_same (k f k' f' : Int) : (sl k f).sameKey (sl k' f') = true ↔ sl k f = sl k' f' := by
  unfold sl Lit.sameKey
  simp
def itW (x : It) : Value := .agg #[.int .i64 x.k, .int .i64 x.v, .int .i64 x.d]
/-- D holds just the items that g tells, each at its own slot. -/
structure HoldsT (D : DataW Value) (g : Int → Int → Option It) : Prop where
  map : IsMap D
  at_ : ∀ k f x, g k f = some x → x.k = k ∧ x.v = f ∧ Wf k f ∧ has D (sl k f) = true ∧ ∀ zd, D.atKey (sl k f) zd = .held (itW x)
  only : ∀ kl u, (∀ zd, D.atKey kl zd = .held u) → ∃ x, g x.k x.v = some x ∧ kl = sl x.k x.v ∧ u = itW x
theorem holdsT_empty : HoldsT (.map []) (fun _ _ => none) :=
  ⟨isMap_empty, fun k f x h => (by cases h), fun kl u h => absurd (h (.lit (.bool true))) (by simp [DataW.atKey])⟩
def putT (g : Int → Int → Option It) (x : It) : Int → Int → Option It := fun k f => if k = x.k ∧ f = x.v then some x else g k f
theorem HoldsT.put {D : DataW Value} {g : Int → Int → Option It} (h : HoldsT D g) (x : It) (hw : Wf x.k x.v) : HoldsT (D.put (sl x.k x.v) (.held (itW x))) (putT g x) := by
  have hk' : WideAt.IsKeyLit (sl x.k x.v) := trivial
  refine ⟨h.map.put _ _, fun k f y hy => ?_, fun kl u hu => ?_⟩
  · unfold putT at hy
    by_cases he : k = x.k ∧ f = x.v
    · rw [if_pos he] at hy
      obtain ⟨rfl, rfl⟩ := he
      cases hy
      exact ⟨rfl, rfl, hw, by rw [has_put_same h.map hk'], fun zd => atKey_put_same h.map hk' _ _⟩
    · rw [if_neg he] at hy
      obtain ⟨h1, h2, h3, h4, h5⟩ := h.at_ k f y hy
      have hne : sl k f ≠ sl x.k x.v := fun e => he (sl_inj h3 hw e)
      exact ⟨h1, h2, h3, by rw [has_put_other hne]; exact h4, fun zd => by rw [atKey_put_other hne]; exact h5 zd⟩
  · by_cases he : kl = sl x.k x.v
    · subst he
      have := hu (.held u)
      rw [atKey_put_same h.map hk'] at this
      refine ⟨x, by unfold putT; rw [if_pos ⟨rfl, rfl⟩], rfl, by cases this; rfl⟩
    · obtain ⟨y, h1, h2, h3⟩ := h.only kl u (fun zd => by rw [← atKey_put_other he (D := D)]; exact hu zd)
      refine ⟨y, ?_, h2, h3⟩
      unfold putT
      rw [if_neg]
      · exact h1
      · rintro ⟨e1, e2⟩; exact he (by rw [h2, e1, e2])
/-- Block b is such a map, of at most n entries. -/
def TMap (w : World) (b n : Nat) (g : Int → Int → Option It) : Prop := ∃ D, w.ownsMap Try.prog 62 asIs b n D ∧ HoldsT D g
theorem TMap.made (w : World) : TMap (w.alloc (.map #[] 0)) w.heap.size 0 (fun _ _ => none) := ⟨_, World.ownsMap_made w _ _ _, holdsT_empty⟩
theorem TMap.kept {w w' : World} {b n : Nat} {g : Int → Int → Option It} {S : List Nat} (h : TMap w b n g) (f : Fr S w w') (hb : b ∉ S) : TMap w' b n g := by
  obtain ⟨D, ⟨es, clock, h1, h2⟩, hD⟩ := h
  exact ⟨D, ⟨es, clock, f.heap h1 hb, h2⟩, hD⟩
theorem TMap.up {w w' : World} {b n : Nat} {g : Int → Int → Option It} (h : TMap w b n g) (f : Fr [] w w') : TMap w' b n g := h.kept f (by simp)
theorem TMap.put {w : World} {b n : Nat} {g : Int → Int → Option It} (h : TMap w b n g) (hn : n < maxLen) (x : It) (hw : Wf x.k x.v) :
    ∃ w', (Instr.mapUpdate 60 (.map (some b)) (sv x.k x.v) (itW x)).run Try.prog w = .ok () w' ∧ TMap w' b (n + 1) (putT g x) ∧ Fr [b] w w' := by
  obtain ⟨D, h1, hD⟩ := h
  obtain ⟨w', r1, r2, r3⟩ := h1.update slotK Try.underlying60 hn (keyOf_sv hw) (show asIs (itW x) = some (.held (itW x), []) from rfl)
  exact ⟨w', r1, ⟨_, r2, hD.put x hw⟩, fr_grown_some r3⟩
/-- What has come of the map's values. -/
structure Col (g : Int → Int → Option It) (left : Lit → Bool) (ss : List It) : Prop where
  mem : ∀ x, x ∈ ss ↔ g x.k x.v = some x ∧ left (sl x.k x.v) = false
  apart : ss.Pairwise fun a b => ¬ (a.k = b.k ∧ a.v = b.v)
theorem Col.step {D : DataW Value} {g : Int → Int → Option It} {left : Lit → Bool} {ss : List It} (h : Col g left ss) (hD : HoldsT D g) {x : It} (hx : g x.k x.v = some x) (hl : left (sl x.k x.v) = true) : Col g (fun z => left z && !z.sameKey (sl x.k x.v)) (ss ++ [x]) := by
  have hwx := (hD.at_ _ _ _ hx).2.2.1
  constructor
  · intro y
    rw [List.mem_append, h.mem]
    simp only [List.mem_singleton, Bool.and_eq_false_iff, Bool.not_eq_false']
    constructor
    · rintro (⟨h1, h2⟩ | rfl)
      · exact ⟨h1, .inl h2⟩
      · exact ⟨hx, .inr ((sl_same _ _ _ _).2 rfl)⟩
    · rintro ⟨h1, h2 | h2⟩
      · exact .inl ⟨h1, h2⟩
      · have hwy := (hD.at_ _ _ _ h1).2.2.1
        obtain ⟨e1, e2⟩ := sl_inj hwy hwx ((sl_same _ _ _ _).1 h2)
        rw [e1, e2, hx] at h1
        exact .inr (Option.some.inj h1).symm
  · rw [List.pairwise_append]
    refine ⟨h.apart, by simp, fun a ha b hb => ?_⟩
    simp only [List.mem_singleton] at hb
    subst hb
    rintro ⟨e1, e2⟩
    have := ((h.mem a).1 ha).2
    rw [e1, e2, hl] at this
    cases this
theorem valuesM_any (b : Nat) (w : World) : Calls Try.prog 38 #[.map (some b)] w fun e w' => e = .returned (.func (.func 48) #[] #[.pointer (some ⟨w.heap.size, 0, none⟩)]) ∧ w' = w.alloc (.cells #[.map (some b)] 60) := by
  go_enter Try.func38, Try.ntmps38
  go_wp2_with fail
  go_ret
  exact ⟨rfl, rfl⟩
set_option maxRecDepth 100000 in
set_option maxHeartbeats 1600000 in
theorem feedsM (n : Nat) (hn : 1 ≤ n) (Bm b nn : Nat) (g : Int → Int → Option It) (w : World) (hm : w.cell? ⟨Bm, 0, none⟩ = some (.map (some b))) (h : TMap w b nn g) :
    Feeds n Try.prog 48 #[.pointer (some ⟨Bm, 0, none⟩)] ApT.enc (fun ys => (∀ x, x ∈ ys ↔ g x.k x.v = some x) ∧ ys.Pairwise fun a b => ¬ (a.k = b.k ∧ a.v = b.v)) nn w := by
  intro l J W hW hJ hB hY h0
  have hm0 := (ApT.fr_of hW).cell hm (by simp)
  obtain ⟨D, hown0, hD⟩ := h
  have hsz := hown0.size_le
  have hown : W.ownsMap Try.prog 62 asIs b nn D := by
    have hbl := hown0.lt
    obtain ⟨es, clock, hb, Ft, hs, hDD⟩ := hown0
    exact ⟨es, clock, (hW.block b hbl).trans hb, Ft, hs, hDD⟩
  clear hown0 hm
  refine callsIn_of_wp Try.func48 rfl trivial ?_ rfl
  simp only [Try.ntmps48, List.size_toArray, List.length_cons, List.length_nil, Nat.reduceAdd, Nat.reduceSub, Array.replicate_succ, Array.replicate_zero, List.push_toArray, List.append_toArray, List.nil_append, List.cons_append]
  gi_wp2_with (first
    | (gi_at_range; refine wpListIn_range_own _ rfl _ 60 rfl 62 26 slotK Try.underlying60 _ b nn _ rfl hown ?_; intro w0 hrg0 hg0 hs0)
    | gi_in)
  go_frame
  gi_loopw [4] (fun _ wr => ∃ (left : Lit → Bool) (cnt : Nat) (ss : List It), wr.ranges Try.prog 62 asIs b W.heap.size nn D left cnt ∧ ss.length + cnt ≤ Maps.size D ∧ Col g left ss ∧ J ss wr)
    (fun _ wr => wr.rangeLeft b W.heap.size)
  case atStart =>
    exact ⟨_, _, [], hrg0, by simp, ⟨fun x => ⟨fun h => by simp at h, fun ⟨h1, h2⟩ => by rw [(hD.at_ _ _ _ h1).2.2.2.1] at h2; cases h2⟩, List.Pairwise.nil⟩, hJ [] W w0 none h0 hg0 (fun r e => by cases e)⟩
  case round =>
    obtain ⟨left, cnt, ss, hrg, hcs, hC, hJs⟩ := hrel
    gi_wp2_with (first
      | (gi_at_next; refine wpListIn_next_ranges _ rfl _ rfl 62 slotK asIs (id : Value → Value) (id : Value → Value) (fun key kl hk => ⟨key, rfl⟩) (fun v _ _ => ⟨v, rfl⟩) b W.heap.size nn _ _ _ rfl hrg ?_ ?_)
      | gi_in)
    · intro hc0 hl0
      gi_wp2
      go_end0
      exact ⟨⟨_, rfl⟩, ss, ⟨fun x => by rw [hC.mem, hl0]; simp, hC.apart⟩, hJs⟩
    · intro kv c kl yd yp w2 cnt2 hkey hlk hv hat hrg2 hlt hg2 hs2 hen
      obtain rfl : yd = .held c := by unfold asIs at hv; simp at hv; exact hv.1.symm
      obtain ⟨x, hx, rfl, rfl⟩ := hD.only kl c hat
      have hJ2 : J ss w2 := hJ ss wr w2 (some W.heap.size) hJs hg2 (fun r e => by cases e; exact ⟨Nat.le_refl _, hrg.iter_walk⟩)
      have hJ3 : J ss (w2.alloc (.cells #[.int .i64 x.k, .int .i64 x.v, .int .i64 x.d] 26)) := hJ ss w2 _ none hJ2 (World.grownBy_alloc w2 _ none) (fun r e => by cases e)
      have hC2 := hC.step hD hx hlk
      obtain ⟨fn, tmps, assign, body, hy, hR⟩ := hY ss x _ hJ3 (by omega)
      have hrg5 := hrg2.of_walks (KeepsWalks.alloc w2 (.cells #[.int .i64 x.k, .int .i64 x.v, .int .i64 x.d] 26))
      unfold itW at hen
      unfold ApT.enc at hy
      clear hs2 hg2 hJ2 hJ3 hJs hv hat hx
      gi_wp2
      refine hR.mono ?_
      rintro e W3 ⟨rfl, hJ4, hk3⟩
      gi_wp2
      have hrg3 := hrg5.of_walks hk3
      go_roundw
      case rel => exact ⟨_, cnt2, ss ++ [x], hrg3, by simp; omega, hC2, hJ4⟩
      case measure => rw [hrg3.left_eq, hrg.left_eq]; exact hlt
end Go.Proofs.Yteahponbknljlaa.Kp
