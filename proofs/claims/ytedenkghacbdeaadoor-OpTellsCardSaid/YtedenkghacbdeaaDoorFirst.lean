/- Package place: the words that an arena begins with, and the arena. -/
import Derived.Test.YtedenkghacbdeaaDoorPlace
import Derived.Test.YtedenkghacbdeaaDoorMaps
import Derived.Test.YtedenkghacbdeaaDoorEnv
import Derived.Stop.IfaceNil
namespace Go.Proofs.YtedenkghacbdeaaDoor.Pl
open Go.RowKit Go.Proofs.YtedenkghacbdeaaDoor.Ar
theorem lt_max {n : Nat} (h : n < 1000) : n < maxLen := by unfold maxLen; omega
theorem wf_small {k : Int} (h1 : -1000000 ≤ k) (h2 : k ≤ 1000000) : (Lit.int .i64 k).wf = true := WalkArith.wf_i64 (by omega)
/-- The map that firstWords makes. -/
def Firsts (t c : Int) (w : World) (e : Ending) (w' : World) : Prop := ∃ b n g, e = .returned (.map (some b)) ∧ w.heap.size ≤ b ∧ n ≤ 3 ∧ IMap w' b n g ∧ Fr [] w w' ∧
  ∀ k, g k = if k = 2 then some (21 + t + 3 * c) else if k = 7 + t then some (-1) else if k = 9 + t then some (2 * (14 + t)) else none
/-- The arena that a configuration begins with. -/
def begun (t c wd : Int) : St := (((St.fresh wd.toNat).poke 2 (21 + t + 3 * c)).poke (7 + t) (-1)).poke (9 + t) (2 * (14 + t))
theorem St.ext' {s u : St} (hl : s.l.length = u.l.length) (hi : ∀ i, i < s.l.length → nth s.l i = nth u.l i) (hn : s.n = u.n) (ha : s.a = u.a) : s = u := by
  obtain ⟨l, n, a⟩ := s
  obtain ⟨l', n', a'⟩ := u
  simp only at hl hi hn ha
  subst hn; subst ha
  have : l = l' := List.ext_getElem hl fun i h1 h2 => by
    have := hi i h1
    simpa [nth, List.getD_eq_getElem?_getD, h1, h2] using this
  rw [this]
/-- What is laid where, at the beginning. -/
def laidAt (t c : Int) (k : Int) : Int := if k = 2 then 21 + t + 3 * c else if k = 7 + t then -1 else if k = 9 + t then 2 * (14 + t) else 0
theorem begun_nth {t c wd : Int} (h1 : 1 ≤ t) (h2 : t ≤ 8) (h3 : 1 ≤ c) (hw : 21 + t + 3 * c ≤ wd) :
    (begun t c wd).l.length = wd.toNat ∧ (∀ i : Nat, i < wd.toNat → nth (begun t c wd).l i = laidAt t c i) ∧ (begun t c wd).n = 0 ∧ (begun t c wd).a = ⟨0, 0, 0, 0, false⟩ := by
  obtain ⟨n, rfl⟩ := Int.eq_ofNat_of_zero_le (show 0 ≤ wd by omega)
  obtain ⟨m, rfl⟩ := Int.eq_ofNat_of_zero_le (show 0 ≤ t by omega)
  have e7 : (7 : Int) + (m : Int) = ((7 + m : Nat) : Int) := by omega
  have e9 : (9 : Int) + (m : Int) = ((9 + m : Nat) : Int) := by omega
  have e2 : (2 : Int) = ((2 : Nat) : Int) := rfl
  refine ⟨by simp [begun, St.poke, length_poke, St.fresh], fun i hi => ?_, rfl, rfl⟩
  simp only [Int.toNat_natCast] at hi
  have hf : nth (St.fresh (Int.toNat (n : Int))).l i = 0 := by simp [nth, St.fresh, List.getD_eq_getElem?_getD, hi]
  simp only [begun, St.poke, e7, e9]
  rw [nth_poke _ (by simp [length_poke, St.fresh]; omega), nth_poke _ (by simp [length_poke, St.fresh]; omega), e2, nth_poke _ (by simp [St.fresh]; omega), hf, laidAt]
  by_cases a2 : i = 2
  · subst a2
    rw [if_neg (by omega), if_neg (by omega), if_pos rfl]
    exact (if_pos rfl).symm
  by_cases a7 : i = 7 + m
  · subst a7
    rw [if_neg (by omega), if_pos rfl, if_neg (by omega), if_pos (by omega)]
  by_cases a9 : i = 9 + m
  · subst a9
    rw [if_pos rfl, if_neg (by omega), if_neg (by omega), if_pos (by omega)]
    rfl
  · rw [if_neg a9, if_neg a7, if_neg a2, if_neg (by omega), if_neg (by omega), if_neg (by omega)]
theorem begun_peek {t c : Int} {n : Nat} (k : Nat) (h1 : 1 ≤ t) (h2 : t ≤ 8) (h3 : 1 ≤ c) (hw : 21 + t + 3 * c ≤ n) (hk : k < n) : peek (begun t c n).l k = laidAt t c k := by
  obtain ⟨b1, b2, _, _⟩ := begun_nth (wd := n) h1 h2 h3 hw
  simp only [Int.toNat_natCast] at b1 b2
  rw [peek_at (by omega), b2 k hk]
theorem is_of {n : Int} (t c wd v : Int) (h : code t c wd v = n) (w : World) :
    Calls Tryd.prog 25 #[.agg #[.int .i64 t, .int .i64 c, .int .i64 wd, .int .i64 v]] w fun e w' => e = .returned (errv n) ∧ Fr [] w w' := h ▸ is_any t c wd v w
theorem code_cases (t c wd v : Int) : code t c wd v = 0 ∨ code t c wd v = 10 ∨ code t c wd v = 14 := by unfold code; split <;> (try split) <;> simp
/-- What the map holds is what is laid. -/
theorem firsts_laid {t c k v : Int} {g : Int → Option Int} (hg : ∀ k, g k = if k = 2 then some (21 + t + 3 * c) else if k = 7 + t then some (-1) else if k = 9 + t then some (2 * (14 + t)) else none) :
    (g k = some v → v = laidAt t c k ∧ (k = 2 ∨ k = 7 + t ∨ k = 9 + t)) ∧ (g k = none → laidAt t c k = 0) := by
  rw [hg k, laidAt]
  by_cases e1 : k = 2
  · rw [if_pos e1, if_pos e1]; exact ⟨fun h => ⟨(Option.some.inj h).symm, .inl e1⟩, fun h => by cases h⟩
  · rw [if_neg e1, if_neg e1]
    by_cases e2 : k = 7 + t
    · rw [if_pos e2, if_pos e2]; exact ⟨fun h => ⟨(Option.some.inj h).symm, .inr (.inl e2)⟩, fun h => by cases h⟩
    · rw [if_neg e2, if_neg e2]
      by_cases e3 : k = 9 + t
      · rw [if_pos e3, if_pos e3]; exact ⟨fun h => ⟨(Option.some.inj h).symm, .inr (.inr e3)⟩, fun h => by cases h⟩
      · rw [if_neg e3, if_neg e3]; exact ⟨(fun h => by cases h), fun _ => rfl⟩
theorem same_int {a b : Int} : (Lit.int .i64 a).sameKey (.int .i64 b) = decide (a = b) := by
  by_cases h : a = b
  · subst h; simp [Lit.sameKey]
  · rw [Maps.sameKey_ne (fun e => h (by cases e; rfl))]; simp [h]
end Go.Proofs.YtedenkghacbdeaaDoor.Pl
