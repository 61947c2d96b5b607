/- Slices that a call made itself: what they hold, what else is kept while they grow. -/
import Derived.Test.YteahponbknljlaaFr
import Derived.Deep.AppendLies
namespace Go.Proofs.Yteahponbknljlaa.Ar
open Go.RowKit
section
variable {w w' : World} {B : Nat} {E : TypeId} {sz n : Nat} {v : Value} {xs : List Value} {S : List Nat}
theorem row_fr (h : w.ownsRow B E sz v n xs) (f : Fr S w w') (hS : ∀ g, v.ownBlock = some g → g ∉ S) : w'.ownsRow B E sz v n xs := by
  obtain ⟨h1, h2⟩ := h
  refine ⟨h1, h2.imp id ?_⟩
  rintro ⟨g, cap, cur, rfl, hb, hh, r⟩
  exact ⟨g, cap, cur, rfl, hb, f.heap hh (hS g rfl), r⟩
theorem row_keeps (h : w.ownsRow B E sz v n xs) (f : Fr [] w w') : w'.ownsRow B E sz v n xs := row_fr h f (by simp)
theorem fr_grown (h : w.grownBy w' v.ownBlock) : Fr v.ownBlock.toList w w' :=
  ⟨h.os, h.tape, h.output, h.size, fun k hk hn => h.block k hk (fun e => hn (by rw [← e]; simp))⟩
theorem row_ne (h : w.ownsRow B E sz v n xs) {b : Nat} {cs : Array Value} {T : TypeId} {fr : Nat × Nat} (hb : w.heap[b]? = some (.cells cs T fr)) (hT : E ≠ T) : b ∉ v.ownBlock.toList := by
  rcases h.2 with ⟨rfl, _⟩ | ⟨g, cap, cur, rfl, _, hh, _⟩
  · simp [Value.ownBlock]
  · simp only [Value.ownBlock, Option.toList_some, List.mem_singleton]
    rintro rfl
    rw [hh] at hb
    simp only [Option.some.injEq, Obj.cells.injEq] at hb
    exact hT hb.2.1
theorem row_ne_map (h : w.ownsRow B E sz v n xs) {b : Nat} {es : Array MapEntry} {k : Nat} (hb : w.heap[b]? = some (.map es k)) : b ∉ v.ownBlock.toList := by
  rcases h.2 with ⟨rfl, _⟩ | ⟨g, cap, cur, rfl, _, hh, _⟩
  · simp [Value.ownBlock]
  · simp only [Value.ownBlock, Option.toList_some, List.mem_singleton]
    rintro rfl
    rw [hh] at hb
    cases hb
theorem row_base (h : w.ownsRow B E sz v n xs) : ∀ g, g ∈ v.ownBlock.toList → B ≤ g := by
  intro g hg
  exact (h.lt g (by simpa using hg)).1
theorem row_more {C : Nat} (h : w.ownsRow B E sz v n xs) (hC : C ≤ B) : w.ownsRow C E sz v n xs := by
  obtain ⟨h1, h2⟩ := h
  refine ⟨h1, h2.imp id ?_⟩
  rintro ⟨g, cap, cur, rfl, hb, r⟩
  exact ⟨g, cap, cur, rfl, Nat.le_trans hC hb, r⟩
end
/-- 'append(s, a, b, ..)': what is appended lies in a block of its own. -/
theorem wpList_app {P : Program} {w : World} {ops : Array Oper} {rest : List Oper} {o : Oper} {a : Act} {Q : Exit → Act → World → Prop} (hgd : o.guard = none) (s x : Operand) (t : TypeId)
    (ho : o.op = .call { callee := .builtin .append, args := #[s, x], argTypes := #[t, t] })
    {B : Nat} {E : TypeId} {z : Value} {size bytes : Nat} (ht : P.underlying t = some (.slice E)) (hi : (P.info? E).map (fun i => (i.zero, i.size, i.bytes)) = some (some z, size, bytes))
    (hzs : z.cells.size = size) (hsz : 0 < size)
    (v : Value) (n : Nat) (xs : List Value) (hs : a.eval s = v) (hown : w.ownsRow B E size v n xs)
    {b m c : Nat} {cs : Array Value} {T : TypeId} (hx : a.eval x = .slice (some ⟨b, 0, none⟩) m c) (hb : w.heap[b]? = some (.cells cs T (0, 0))) (hl : cs.size = m * size) (h1 : ∀ u ∈ cs.toList, u.oneCell' = true)
    (h63 : n + m ≤ maxLen) (hbytes : (n + m) * bytes ≤ 140737488355328) (hbase : B ≤ w.heap.size)
    (h : ∀ v' w', w'.ownsRow B E size v' (n + m) (xs ++ cs.toList) → Fr v.ownBlock.toList w w' → wpList P ops Q rest (a.put o.dst v') w') : wpList P ops Q (o :: rest) a w := by
  obtain ⟨i, hi0, hz, hs0, hb0⟩ := info_parts hi
  exact wpList_append_own_at w hgd s x t ho B E i z size bytes ht hi0 hz hs0 hb0 hzs hsz v n xs hs hown ⟨b, 0, none⟩ m c cs.toList hx (by simpa using hl) (World.news_of_block hb) h1 h63 hbytes hbase
    fun v' w' h2 h3 _ _ => h v' w' h2 (fr_grown h3)
theorem one_ints (k : IntKind) (zs : List Int) : ∀ u ∈ (zs.map (Value.int k)).toArray.toList, u.oneCell' = true := by simpa using ints_oneCell k zs

/-- What lies in a row of one's own, cell by cell. -/
theorem row_cell {w : World} {B : Nat} {E : TypeId} {sz n : Nat} {v : Value} {xs : List Value} (h : w.ownsRow B E sz v n xs) :
    ∃ a cap, v = .slice a n cap ∧ n ≤ maxLen ∧ (n = 0 ∨ ∃ g, a = some ⟨g, 0, none⟩ ∧ g < w.heap.size ∧ ∀ j x, xs[j]? = some x → w.cell? ⟨g, j, none⟩ = some x) := by
  obtain ⟨h1, h2⟩ := h
  rcases h2 with ⟨rfl, rfl⟩ | ⟨g, cap, cur, rfl, -, hh, hc1, hc2, hs, ht⟩
  · exact ⟨none, 0, rfl, by simp [maxLen], .inl rfl⟩
  · refine ⟨_, _, rfl, by omega, .inr ⟨g, rfl, (Array.getElem?_eq_some_iff.1 hh).1, fun j x hx => ?_⟩⟩
    rw [cell_of_row _ _ _ _ _ _ hh]
    have hj : j < n * sz := by rw [← h1]; exact (List.getElem?_eq_some_iff.1 hx).1
    rw [← ht, List.getElem?_take_of_lt hj] at hx
    simpa using hx
end Go.Proofs.Yteahponbknljlaa.Ar
