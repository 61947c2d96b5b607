/- What a call may turn: 'Fr S w w'': blocks that were there keep what they hold, but those in S; and a law for regions that draw their order, whose operations only read and whose calls make new blocks alone. -/
import Derived.Test.YtfchbbhopfganaaRows
import Derived.WalkKit
import Derived.WalkLawsBesides
import Derived.Deep.QuietTactic
import Derived.BigQuiet
import Derived.Handy
import Derived.Lib.Hide
namespace Go.Proofs.Ytfchbbhopfganaa.Ar
open Go.RowKit
/-- Blocks that were there keep what they hold, but those in S. -/
structure Fr (S : List Nat) (w w' : World) : Prop where
  os : w'.os = w.os
  tape : w'.tape = w.tape
  output : w'.output = w.output
  size : w.heap.size ≤ w'.heap.size
  block : ∀ k, k < w.heap.size → k ∉ S → w'.heap[k]? = w.heap[k]?
theorem Fr.refl (S : List Nat) (w : World) : Fr S w w := ⟨rfl, rfl, rfl, Nat.le_refl _, fun _ _ _ => rfl⟩
theorem Fr.trans {S : List Nat} {a b c : World} (h : Fr S a b) (k : Fr S b c) : Fr S a c :=
  ⟨k.os.trans h.os, k.tape.trans h.tape, k.output.trans h.output, Nat.le_trans h.size k.size, fun i hi hn => (k.block i (Nat.lt_of_lt_of_le hi h.size) hn).trans (h.block i hi hn)⟩
theorem Fr.mono {S T : List Nat} {a b : World} (h : Fr S a b) (hs : ∀ k, k ∈ S → k ∈ T) : Fr T a b :=
  ⟨h.os, h.tape, h.output, h.size, fun i hi hn => h.block i hi (fun e => hn (hs i e))⟩
theorem Fr.own {S : List Nat} {a b c : World} (h : Fr [] a b) (k : Fr S b c) (hs : ∀ i, i ∈ S → a.heap.size ≤ i) : Fr [] a c :=
  ⟨k.os.trans h.os, k.tape.trans h.tape, k.output.trans h.output, Nat.le_trans h.size k.size, fun i hi _ => (k.block i (Nat.lt_of_lt_of_le hi h.size) (fun e => Nat.not_le_of_lt hi (hs i e))).trans (h.block i hi (by simp))⟩
theorem Fr.own2 {p q : Nat} {a b c : World} (h : Fr [] a b) (k : Fr [p, q] b c) (hp : a.heap.size ≤ p) (hq : a.heap.size ≤ q) : Fr [] a c :=
  h.own k (by intro i hi; simp at hi; rcases hi with rfl | rfl <;> assumption)
theorem Fr.drew {S : List Nat} {a w : World} (h : Fr S a w) : Fr S a w.drew := ⟨h.os, h.tape, h.output, h.size, h.block⟩
theorem Fr.heap {S : List Nat} {w w' : World} {b : Nat} {o : Obj} (f : Fr S w w') (h : w.heap[b]? = some o) (hn : b ∉ S) : w'.heap[b]? = some o := (f.block b (Array.getElem?_eq_some_iff.1 h).1 hn).trans h
theorem Fr.below {w w' : World} (f : Fr [] w w') : Below w.heap.size w w' := ⟨f.os, f.tape, f.output, f.size, fun k hk => f.block k hk (by simp)⟩
theorem Fr.setCell {S : List Nat} {w : World} {b i : Nat} (v : Value) (h : b ∈ S) : Fr S w (w.setCell ⟨b, i, none⟩ v) :=
  ⟨rfl, rfl, rfl, by simp, fun k _ hn => heap_setCell_other _ _ _ _ (fun e => hn (by rw [e]; exact h))⟩
theorem Fr.setCell' {S : List Nat} {a w : World} (h : Fr S a w) {b i : Nat} (v : Value) (hb : b ∈ S) : Fr S a (w.setCell ⟨b, i, none⟩ v) := h.trans (Fr.setCell v hb)
theorem Fr.alloc {S : List Nat} {a w : World} (h : Fr S a w) (o : Obj) : Fr S a (w.alloc o) :=
  h.trans ⟨rfl, rfl, rfl, by simp, fun k hk _ => heap_alloc_old w o hk⟩
theorem Fr.grown {w w' : World} (h : w.grownBy w' none) : Fr [] w w' := ⟨h.os, h.tape, h.output, h.size, fun k hk _ => h.block k hk (by simp)⟩
theorem wpQuiet_mono {P : Program} {ops : Array Oper} {C : World → Prop} {Q Q' : Act → Prop} (h : ∀ a, Q a → Q' a) : ∀ (l : List Oper) (a : Act), wpQuiet P ops C Q l a → wpQuiet P ops C Q' l a
  | [], a, hh => h a hh
  | o :: rest, a, hh => by
    unfold wpQuiet at hh ⊢
    split
    · rename_i hw; rw [if_pos hw] at hh; exact Oper.quiet_mono (wpQuiet_mono h rest) hh
    · rename_i hw; rw [if_neg hw] at hh; exact wpQuiet_mono h rest _ hh
theorem Fr.then {S : List Nat} {a b c : World} (h : Fr S a b) (k : Fr [] b c) : Fr S a c := h.trans (k.mono (by simp))
theorem Fr.drewN {S : List Nat} {a w : World} (h : Fr S a w) (n : Nat) : Fr S a (w.drewN n) := ⟨h.os, h.tape, h.output, h.size, h.block⟩
theorem Fr.cell {S : List Nat} {w w' : World} (f : Fr S w w') {b i : Nat} {v : Value} (h : w.cell? ⟨b, i, none⟩ = some v) (hn : b ∉ S) : w'.cell? ⟨b, i, none⟩ = some v :=
  (World.cell?_of_block (f.block b (World.block_lt_of_cell? w _ h) hn)).trans h
theorem ret_eq {k : IntKind} {a b : Int} (h : a = b) : Ending.returned (.int k a) = .returned (.int k b) := by rw [h]
/-- The worlds that a region may come to: all that was there is as it was. -/
def In (w : World) : Type := { x : World // Fr [] w x }
def In.at_ {w : World} (s : In w) : World := s.1
theorem In.fr {w : World} (s : In w) : Fr [] w s.at_ := s.2
instance (w : World) : Nonempty (In w) := ⟨⟨w, Fr.refl _ _⟩⟩
theorem In.cell {w : World} {b i : Nat} {v : Value} (h : w.cell? ⟨b, i, none⟩ = some v) (s : In w) : s.at_.cell? ⟨b, i, none⟩ = some v := s.fr.cell h (by simp)
/-- One walk in the order of the text serves every order, where operations read and calls make new blocks alone. -/
theorem wp_region_in {P : Program} {id : Nat} {Q : Exit → Act → World → Prop} {a : Act} {w : World} {l : List Oper} (hm : P.follows .mixedOrders = true) (hB : Region.lexB .any l.toArray = true)
    (h : wpQuiet P l.toArray (fun w' => ∃ s : In w, w' = s.at_) (fun a' => ∀ w', Fr [] w w' → Q .normal a' w') l a) : (Code.region id l.toArray true).wp P Q a w :=
  wp_region_quiet (C := fun w' => ∃ s : In w, w' = s.at_) hm hB ⟨⟨_, (Fr.refl [] w).drew⟩, rfl⟩ (wpQuiet_mono (fun a h w' hw => by obtain ⟨s, rfl⟩ := hw; exact h _ s.fr) _ _ (by simpa using h))
theorem Calls.in_ {P : Program} {f : FuncId} {args : Array Value} {w : World} {s : In w} {v : Value}
    (h : Calls P f args s.at_ fun e w' => e = .returned v ∧ Fr [] s.at_ w') : Calls P f args s.at_ fun e w'' => e = .returned v ∧ ∃ s' : In w, w'' = s'.at_ :=
  h.mono fun _ _ ⟨he, hf⟩ => ⟨he, ⟨⟨_, s.fr.trans hf⟩, rfl⟩⟩
theorem Calls.in_same {P : Program} {f : FuncId} {args : Array Value} {w : World} {s : In w} {v : Value}
    (h : Calls P f args s.at_ fun e w' => e = .returned v ∧ s.at_ = w') : Calls P f args s.at_ fun e w'' => e = .returned v ∧ ∃ s' : In w, w'' = s'.at_ :=
  h.mono fun _ _ ⟨he, hf⟩ => ⟨he, ⟨s, hf.symm⟩⟩
end Go.Proofs.Ytfchbbhopfganaa.Ar
