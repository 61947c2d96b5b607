/- Texts that several proofs of this seat share, one behind the other: Fr, VMap, GMap, Word, Env, EnvL, Arena, Rar, W1, Ob, Row, Seq, Item. -/
import Derived.Test.YtdnilnjlbobcmaaDoorRows
import Derived.WalkKit
import Derived.WalkLawsBesides
import Derived.Deep.QuietTactic
import Derived.BigQuiet
import Derived.Handy
import Derived.Lib.Hide
import Derived.Maps.OwnSet
import Derived.Maps.Views
import Derived.StillTail
import Derived.WalkArith
import Derived.Laws.BitsAllLaws
import Derived.Deep.AppendLies
import Derived.Deep.Upon
/- What a call may turn: 'Fr S w w'': blocks that were there keep what they hold, but those in S; and a law for regions that draw their order, whose operations only read and whose calls make new blocks alone. -/

namespace Go.Proofs.YtdnilnjlbobcmaaDoor.Ar
open Go.RowKit
/-- Blocks that were there keep what they hold, but those in S. -/
structure Fr (S : List Nat) (w w' : World) : Prop where
  os : w'.os = w.os
  tape : w'.tape = w.tape
  output : w'.output = w.output
  size : w.heap.size ≤ w'.heap.size
  block : ∀ k, k < w.heap.size → k ∉ S → w'.heap[k]? = w.heap[k]?
theorem Fr.refl (S : List Nat) (w : World) : Fr S w w := ⟨rfl, rfl, rfl, Nat.le_refl _, fun _ _ _ => rfl⟩
theorem Fr.trans {S : List Nat} {a b c : World} (h : Fr S a b) (k : Fr S b c) : Fr S a c :=
  ⟨k.os.trans h.os, k.tape.trans h.tape, k.output.trans h.output, Nat.le_trans h.size k.size, fun i hi hn => (k.block i (Nat.lt_of_lt_of_le hi h.size) hn).trans (h.block i hi hn)⟩
theorem Fr.mono {S T : List Nat} {a b : World} (h : Fr S a b) (hs : ∀ k, k ∈ S → k ∈ T) : Fr T a b :=
  ⟨h.os, h.tape, h.output, h.size, fun i hi hn => h.block i hi (fun e => hn (hs i e))⟩
theorem Fr.own {S : List Nat} {a b c : World} (h : Fr [] a b) (k : Fr S b c) (hs : ∀ i, i ∈ S → a.heap.size ≤ i) : Fr [] a c :=
  ⟨k.os.trans h.os, k.tape.trans h.tape, k.output.trans h.output, Nat.le_trans h.size k.size, fun i hi _ => (k.block i (Nat.lt_of_lt_of_le hi h.size) (fun e => Nat.not_le_of_lt hi (hs i e))).trans (h.block i hi (by simp))⟩
theorem Fr.own2 {p q : Nat} {a b c : World} (h : Fr [] a b) (k : Fr [p, q] b c) (hp : a.heap.size ≤ p) (hq : a.heap.size ≤ q) : Fr [] a c :=
  h.own k (by intro i hi; simp at hi; rcases hi with rfl | rfl <;> assumption)
theorem Fr.drew {S : List Nat} {a w : World} (h : Fr S a w) : Fr S a w.drew := ⟨h.os, h.tape, h.output, h.size, h.block⟩
theorem Fr.heap {S : List Nat} {w w' : World} {b : Nat} {o : Obj} (f : Fr S w w') (h : w.heap[b]? = some o) (hn : b ∉ S) : w'.heap[b]? = some o := (f.block b (Array.getElem?_eq_some_iff.1 h).1 hn).trans h
theorem Fr.below {w w' : World} (f : Fr [] w w') : Below w.heap.size w w' := ⟨f.os, f.tape, f.output, f.size, fun k hk => f.block k hk (by simp)⟩
theorem Fr.setCell {S : List Nat} {w : World} {b i : Nat} (v : Value) (h : b ∈ S) : Fr S w (w.setCell ⟨b, i, none⟩ v) :=
  ⟨rfl, rfl, rfl, by simp, fun k _ hn => heap_setCell_other _ _ _ _ (fun e => hn (by rw [e]; exact h))⟩
theorem Fr.setCell' {S : List Nat} {a w : World} (h : Fr S a w) {b i : Nat} (v : Value) (hb : b ∈ S) : Fr S a (w.setCell ⟨b, i, none⟩ v) := h.trans (Fr.setCell v hb)
theorem Fr.alloc {S : List Nat} {a w : World} (h : Fr S a w) (o : Obj) : Fr S a (w.alloc o) :=
  h.trans ⟨rfl, rfl, rfl, by simp, fun k hk _ => heap_alloc_old w o hk⟩
theorem Fr.grown {w w' : World} (h : w.grownBy w' none) : Fr [] w w' := ⟨h.os, h.tape, h.output, h.size, fun k hk _ => h.block k hk (by simp)⟩
theorem wpQuiet_mono {P : Program} {ops : Array Oper} {C : World → Prop} {Q Q' : Act → Prop} (h : ∀ a, Q a → Q' a) : ∀ (l : List Oper) (a : Act), wpQuiet P ops C Q l a → wpQuiet P ops C Q' l a
  | [], a, hh => h a hh
  | o :: rest, a, hh => by
    unfold wpQuiet at hh ⊢
    split
    · rename_i hw; rw [if_pos hw] at hh; exact Oper.quiet_mono (wpQuiet_mono h rest) hh
    · rename_i hw; rw [if_neg hw] at hh; exact wpQuiet_mono h rest _ hh
theorem Fr.then {S : List Nat} {a b c : World} (h : Fr S a b) (k : Fr [] b c) : Fr S a c := h.trans (k.mono (by simp))
theorem Fr.drewN {S : List Nat} {a w : World} (h : Fr S a w) (n : Nat) : Fr S a (w.drewN n) := ⟨h.os, h.tape, h.output, h.size, h.block⟩
theorem Fr.cell {S : List Nat} {w w' : World} (f : Fr S w w') {b i : Nat} {v : Value} (h : w.cell? ⟨b, i, none⟩ = some v) (hn : b ∉ S) : w'.cell? ⟨b, i, none⟩ = some v :=
  (World.cell?_of_block (f.block b (World.block_lt_of_cell? w _ h) hn)).trans h
theorem ret_eq {k : IntKind} {a b : Int} (h : a = b) : Ending.returned (.int k a) = .returned (.int k b) := by rw [h]
/-- The worlds that a region may come to: all that was there is as it was. -/
def In (w : World) : Type := { x : World // Fr [] w x }
def In.at_ {w : World} (s : In w) : World := s.1
theorem In.fr {w : World} (s : In w) : Fr [] w s.at_ := s.2
instance (w : World) : Nonempty (In w) := ⟨⟨w, Fr.refl _ _⟩⟩
theorem In.cell {w : World} {b i : Nat} {v : Value} (h : w.cell? ⟨b, i, none⟩ = some v) (s : In w) : s.at_.cell? ⟨b, i, none⟩ = some v := s.fr.cell h (by simp)
/-- One walk in the order of the text serves every order, where operations read and calls make new blocks alone. -/
theorem wp_region_in {P : Program} {id : Nat} {Q : Exit → Act → World → Prop} {a : Act} {w : World} {l : List Oper} (hm : P.follows .mixedOrders = true) (hB : Region.lexB .any l.toArray = true)
    (h : wpQuiet P l.toArray (fun w' => ∃ s : In w, w' = s.at_) (fun a' => ∀ w', Fr [] w w' → Q .normal a' w') l a) : (Code.region id l.toArray true).wp P Q a w :=
  wp_region_quiet (C := fun w' => ∃ s : In w, w' = s.at_) hm hB ⟨⟨_, (Fr.refl [] w).drew⟩, rfl⟩ (wpQuiet_mono (fun a h w' hw => by obtain ⟨s, rfl⟩ := hw; exact h _ s.fr) _ _ (by simpa using h))
theorem Calls.in_ {P : Program} {f : FuncId} {args : Array Value} {w : World} {s : In w} {v : Value}
    (h : Calls P f args s.at_ fun e w' => e = .returned v ∧ Fr [] s.at_ w') : Calls P f args s.at_ fun e w'' => e = .returned v ∧ ∃ s' : In w, w'' = s'.at_ :=
  h.mono fun _ _ ⟨he, hf⟩ => ⟨he, ⟨⟨_, s.fr.trans hf⟩, rfl⟩⟩
theorem Calls.in_same {P : Program} {f : FuncId} {args : Array Value} {w : World} {s : In w} {v : Value}
    (h : Calls P f args s.at_ fun e w' => e = .returned v ∧ s.at_ = w') : Calls P f args s.at_ fun e w'' => e = .returned v ∧ ∃ s' : In w, w'' = s'.at_ :=
  h.mono fun _ _ ⟨he, hf⟩ => ⟨he, ⟨s, hf.symm⟩⟩
end Go.Proofs.YtdnilnjlbobcmaaDoor.Ar
/- Maps from keys below 64 to whatever values: what they hold, and that they stay small. -/

namespace Go.Proofs.YtdnilnjlbobcmaaDoor.Ar
open Go.RowKit Go.Maps
/-- An element reads as itself. -/
def asIs (v : Value) : Option (DataW Value × List MemPlace) := some (.held v, [])
def ik (k : Nat) : Lit := .int .i64 k
theorem ik_inj {a b : Nat} (h : ik a = ik b) : a = b := by unfold ik at h; simp at h; omega
theorem intKeyV : Keyed Tryd.prog 3 := int_keyed Tryd.underlying3
theorem keyOf_ik {k : Nat} (h : k < 64) : keyOf Tryd.prog 3 (.int .i64 k) = some (ik k) := keyOf_int_mk Tryd.underlying3 (WalkArith.wf_i64 (by omega))
/-- How many keys below n are there. -/
def cnt (D : DataW Value) : Nat → Nat
  | 0 => 0
  | n + 1 => cnt D n + if has D (ik n) then 1 else 0
theorem cnt_le (D : DataW Value) (n : Nat) : cnt D n ≤ n := by
  induction n with
  | zero => exact Nat.le_refl _
  | succ n ih => unfold cnt; split <;> omega
theorem cnt_above (D : DataW Value) (k : Nat) (d : DataW Value) (n : Nat) (h : n ≤ k) : cnt (D.put (ik k) d) n = cnt D n := by
  induction n with
  | zero => rfl
  | succ n ih =>
    unfold cnt
    rw [ih (by omega), has_put_other (fun e => by have := ik_inj e; omega)]
theorem cnt_put (D : DataW Value) (hD : IsMap D) (k : Nat) (d : DataW Value) (n : Nat) (h : k < n) : cnt (D.put (ik k) d) n = if has D (ik k) then cnt D n else cnt D n + 1 := by
  induction n with
  | zero => omega
  | succ n ih =>
    unfold cnt
    by_cases e : k = n
    · subst e
      rw [cnt_above D k d k (Nat.le_refl _), has_put_same hD (show WideAt.IsKeyLit (ik k) from trivial)]
      cases has D (ik k) <;> simp
    · rw [ih (by omega), has_put_other (fun h => e (ik_inj h).symm)]
      cases has D (ik k) <;> simp <;> omega
/-- Block b is a map of keys below 64 that reads as D. -/
def VMap (w : World) (b : Nat) (D : DataW Value) : Prop := (∃ n, w.ownsMap Tryd.prog 3 asIs b n D) ∧ size D ≤ cnt D 64
theorem VMap.lt {w : World} {b : Nat} {D : DataW Value} (h : VMap w b D) : b < w.heap.size := by
  obtain ⟨⟨n, h⟩, -⟩ := h; exact h.lt
theorem VMap.kept {S : List Nat} {w w' : World} {b : Nat} {D : DataW Value} (h : VMap w b D) (f : Fr S w w') (hb : b ∉ S) : VMap w' b D := by
  obtain ⟨⟨n, es, clock, h1, h2⟩, h3⟩ := h
  exact ⟨⟨n, es, clock, f.heap h1 hb, h2⟩, h3⟩
theorem VMap.isMap {w : World} {b : Nat} {D : DataW Value} (h : VMap w b D) : IsMap D := by
  obtain ⟨⟨n, h⟩, -⟩ := h; exact h.isMap
theorem VMap.made (w : World) : VMap (w.alloc (.map #[] 0)) w.heap.size (.map []) := ⟨⟨_, World.ownsMap_made w _ _ _⟩, Nat.zero_le _⟩
theorem VMap.is_map {w : World} {b : Nat} {D : DataW Value} (h : VMap w b D) : ∃ es clock, w.heap[b]? = some (.map es clock) := by
  obtain ⟨⟨n, es, clock, h1, _⟩, _⟩ := h; exact ⟨es, clock, h1⟩
theorem VMap.ne {w : World} {b q : Nat} {D : DataW Value} {cs : Array Value} {T : TypeId} {f : Nat × Nat} (h : VMap w b D) (hq : w.heap[q]? = some (.cells cs T f)) : b ≠ q := by
  rintro rfl
  obtain ⟨es, clock, h1⟩ := h.is_map
  rw [h1] at hq; cases hq
theorem fr_grown_some {w w' : World} {b : Nat} (h : w.grownBy w' (some b)) : Fr [b] w w' := ⟨h.os, h.tape, h.output, h.size, fun k hk hn => h.block k hk (fun e => hn (by cases e; simp))⟩
theorem VMap.put {w : World} {b : Nat} {D : DataW Value} (h : VMap w b D) {t e : TypeId} (ht : Tryd.prog.underlying t = some (.map 3 e)) {k : Nat} (hk : k < 64) (v : Value) :
    ∃ w', (Instr.mapUpdate t (.map (some b)) (.int .i64 k) v).run Tryd.prog w = .ok () w' ∧ VMap w' b (D.put (ik k) (.held v)) ∧ Fr [b] w w' := by
  have hM := h.isMap
  obtain ⟨⟨n, h1⟩, h2⟩ := h
  have hT := h1.tidy intKeyV
  have h1' : w.ownsMap Tryd.prog 3 asIs b (size D) D := by
    obtain ⟨es, clock, hb, F, hs, rfl⟩ := h1
    exact ⟨es, clock, hb, F, by rw [size_eq, length_sorted]; simp, rfl⟩
  have hc := cnt_le D 64
  obtain ⟨w', r1, r2, r3⟩ := h1'.update intKeyV ht (by unfold maxLen; omega) (keyOf_ik hk) (show asIs v = some (.held v, []) from rfl)
  refine ⟨w', r1, ⟨⟨_, r2⟩, ?_⟩, fr_grown_some r3⟩
  rw [size_put hT, cnt_put D hM k _ 64 hk]
  split <;> omega
/-- What is asked of it. -/
theorem VMap.look {w : World} {b : Nat} {D : DataW Value} (h : VMap w b D) {t e : TypeId} (ht : Tryd.prog.underlying t = some (.map 3 e)) {z : Value} (hz : (zeroValue e).run Tryd.prog w = .ok z w) {k : Nat} (hk : k < 64) {v : Value} (hv : D.atKey (ik k) (.held z) = .held v) (c : Bool) :
    (Instr.lookup t (.map (some b)) (.int .i64 k) c).run Tryd.prog w = .ok (if c then .tuple #[v, .bool (has D (ik k))] else v) w := by
  obtain ⟨⟨n, es, clock, hb, F, hs, rfl⟩, -⟩ := h
  rcases Maps.fit_look c intKeyV ht hz hb F (keyOf_ik hk) with ⟨hrun, _, hat⟩ | ⟨e0, y, _, _, hrun, hRv, hat, _⟩
  · rw [has_false_of_atKey hat]
    rw [hat] at hv
    obtain rfl : z = v := by cases hv; rfl
    exact hrun
  · rw [has_true_of_atKey hat]
    have hy : y = (.held e0.val, []) := by unfold asIs at hRv; exact (Option.some.inj hRv).symm
    rw [hat, hy] at hv
    obtain rfl : e0.val = v := by cases hv; rfl
    exact hrun
end Go.Proofs.YtdnilnjlbobcmaaDoor.Ar
/- Maps from numbers to whatever values: what they hold, as a function of the key. -/

namespace Go.Proofs.YtdnilnjlbobcmaaDoor.Ar
open Go.RowKit Go.Maps
/-- D holds just what g tells. -/
def HoldsV (D : DataW Value) (g : Int → Option Value) : Prop :=
  IsMap D ∧ ∀ k : Int, has D (.int .i64 k) = (g k).isSome ∧ ∀ v, g k = some v → ∀ zd, D.atKey (.int .i64 k) zd = .held v
/-- Block b is a map of at most n values that holds what g tells. -/
def GMap (w : World) (b n : Nat) (g : Int → Option Value) : Prop := ∃ D, w.ownsMap Tryd.prog 3 asIs b n D ∧ HoldsV D g
theorem holdsV_empty : HoldsV (.map []) (fun _ => none) := ⟨isMap_empty, fun k => ⟨rfl, fun v h => by cases h⟩⟩
theorem HoldsV.put {D : DataW Value} {g : Int → Option Value} (h : HoldsV D g) (k : Int) (v : Value) : HoldsV (D.put (.int .i64 k) (.held v)) (fun x => if x = k then some v else g x) := by
  obtain ⟨hm, hg⟩ := h
  refine ⟨hm.put _ _, fun x => ?_⟩
  by_cases hx : x = k
  · subst hx
    have hk : WideAt.IsKeyLit (.int .i64 x) := trivial
    exact ⟨by rw [has_put_same hm hk]; simp, fun u hu zd => by simp at hu; subst hu; exact atKey_put_same hm hk _ _⟩
  · have hne : (Lit.int .i64 x) ≠ Lit.int .i64 k := fun e => hx (by cases e; rfl)
    simp only [if_neg hx]
    rw [has_put_other hne]
    exact ⟨(hg x).1, fun u hu zd => by rw [atKey_put_other hne]; exact (hg x).2 u hu zd⟩
theorem GMap.made (w : World) : GMap (w.alloc (.map #[] 0)) w.heap.size 0 (fun _ => none) := ⟨_, World.ownsMap_made w _ _ _, holdsV_empty⟩
theorem GMap.kept {w w' : World} {b n : Nat} {g : Int → Option Value} {S : List Nat} (h : GMap w b n g) (f : Fr S w w') (hb : b ∉ S) : GMap w' b n g := by
  obtain ⟨D, ⟨es, clock, h1, h2⟩, hD⟩ := h
  exact ⟨D, ⟨es, clock, f.heap h1 hb, h2⟩, hD⟩
theorem GMap.up {w w' : World} {b n : Nat} {g : Int → Option Value} (h : GMap w b n g) (f : Fr [] w w') : GMap w' b n g := h.kept f (by simp)
theorem GMap.lt {w : World} {b n : Nat} {g : Int → Option Value} (h : GMap w b n g) : b < w.heap.size := by
  obtain ⟨D, h1, _⟩ := h; exact h1.lt
theorem GMap.is_map {w : World} {b n : Nat} {g : Int → Option Value} (h : GMap w b n g) : ∃ es clock, w.heap[b]? = some (.map es clock) := by
  obtain ⟨D, ⟨es, clock, h1, _⟩, _⟩ := h; exact ⟨es, clock, h1⟩
theorem GMap.ne {w : World} {b n q : Nat} {g : Int → Option Value} {cs : Array Value} {T : TypeId} {f : Nat × Nat} (h : GMap w b n g) (hq : w.heap[q]? = some (.cells cs T f)) : b ≠ q := by
  rintro rfl
  obtain ⟨es, clock, h1⟩ := h.is_map
  rw [h1] at hq; cases hq
theorem GMap.put {w : World} {b n : Nat} {g : Int → Option Value} (h : GMap w b n g) {t e : TypeId} (ht : Tryd.prog.underlying t = some (.map 3 e)) (hn : n < maxLen) {k : Int} (hk : (Lit.int .i64 k).wf = true) (v : Value) :
    ∃ w', (Instr.mapUpdate t (.map (some b)) (.int .i64 k) v).run Tryd.prog w = .ok () w' ∧ GMap w' b (n + 1) (fun x => if x = k then some v else g x) ∧ Fr [b] w w' := by
  obtain ⟨D, h1, hD⟩ := h
  obtain ⟨w', r1, r2, r3⟩ := h1.update intKeyV ht hn (keyOf_int_mk Tryd.underlying3 hk) (show asIs v = some (.held v, []) from rfl)
  exact ⟨w', r1, ⟨_, r2, hD.put k v⟩, fr_grown_some r3⟩
/-- What is asked of it. -/
theorem GMap.look {w : World} {b n : Nat} {g : Int → Option Value} (h : GMap w b n g) {t e : TypeId} (ht : Tryd.prog.underlying t = some (.map 3 e)) {z : Value} (hz : (zeroValue e).run Tryd.prog w = .ok z w) {k : Int} (hk : (Lit.int .i64 k).wf = true) (c : Bool) :
    (Instr.lookup t (.map (some b)) (.int .i64 k) c).run Tryd.prog w = .ok (if c then .tuple #[(g k).getD z, .bool (g k).isSome] else (g k).getD z) w := by
  obtain ⟨D, ⟨es, clock, hb, F, hs, hDe⟩, hD⟩ := h
  obtain ⟨hh, hv⟩ := hD.2 k
  rcases Maps.fit_look c intKeyV ht hz hb F (keyOf_int_mk Tryd.underlying3 hk) with ⟨hrun, _, hat⟩ | ⟨e0, y, _, _, hrun, hRv, hat, _⟩
  · rw [← hDe] at hat
    rw [has_false_of_atKey hat] at hh
    rw [show g k = none by cases hg : g k with | none => rfl | some v => rw [hg] at hh; simp at hh]
    simpa using hrun
  · rw [← hDe] at hat
    rw [has_true_of_atKey hat] at hh
    obtain ⟨v, hg⟩ : ∃ v, g k = some v := by cases hg : g k with | none => rw [hg] at hh; simp at hh | some v => exact ⟨v, rfl⟩
    have hy : y = (.held e0.val, []) := by unfold asIs at hRv; exact (Option.some.inj hRv).symm
    have h2 := hv v hg (.held z)
    rw [hat, hy] at h2
    obtain rfl : e0.val = v := by cases h2; rfl
    rw [hg]
    simpa using hrun
end Go.Proofs.YtdnilnjlbobcmaaDoor.Ar
/- What each function of package word answers, whatever its arguments (a contract each), in any world in which the table of bounds holds what it is laid with. No condition on the arguments but what each theorem names. -/

namespace Go.Proofs.YtdnilnjlbobcmaaDoor.Word
open Go.RowKit
/-- The world has drawn some answers of the tape, no more. -/
def Dr (w w' : World) : Prop := ∃ m, w' = w.drewN m
theorem Dr.refl (w : World) : Dr w w := ⟨0, rfl⟩
theorem Dr.trans {a b c : World} (h : Dr a b) (k : Dr b c) : Dr a c := by
  obtain ⟨m, rfl⟩ := h; obtain ⟨n, rfl⟩ := k; exact ⟨m + n, by rw [World.drewN_drewN]⟩
/-- What the table of bounds holds. -/
def Tab (w : World) : Prop :=
  w.cell? ⟨0, 0, none⟩ = some (.int .i64 0) ∧ w.cell? ⟨0, 1, none⟩ = some (.int .i64 1073741824) ∧
  w.cell? ⟨0, 2, none⟩ = some (.int .i64 0) ∧ w.cell? ⟨0, 3, none⟩ = some (.int .i64 1073741824) ∧
  w.cell? ⟨0, 4, none⟩ = some (.int .i64 0) ∧ w.cell? ⟨0, 5, none⟩ = some (.int .i64 16777212) ∧
  w.cell? ⟨0, 6, none⟩ = some (.int .i64 0) ∧ w.cell? ⟨0, 7, none⟩ = some (.int .i64 16777212) ∧
  w.cell? ⟨0, 8, none⟩ = some (.int .i64 0) ∧ w.cell? ⟨0, 9, none⟩ = some (.int .i64 1048576) ∧
  w.cell? ⟨0, 10, none⟩ = some (.int .i64 (-1)) ∧ w.cell? ⟨0, 11, none⟩ = some (.int .i64 1048576)
theorem Tab.drew {w w' : World} (h : Tab w) (d : Dr w w') : Tab w' := by obtain ⟨m, rfl⟩ := d; exact h
theorem Tab.drewN {w : World} (h : Tab w) (m : Nat) : Tab (w.drewN m) := h

def heldI (lo hi n : Int) : Int := if hi < (if n < lo then lo else n) then hi else (if n < lo then lo else n)
theorem heldI_in {lo hi n : Int} (a : lo ≤ n) (b : n ≤ hi) : heldI lo hi n = n := by unfold heldI; rw [if_neg (by omega : ¬ n < lo), if_neg (by omega)]
theorem heldI_bd {lo hi : Int} (n : Int) (a : lo ≤ hi) : lo ≤ heldI lo hi n ∧ heldI lo hi n ≤ hi := by unfold heldI; split <;> split <;> omega
theorem heldI_lo {lo hi n : Int} (c : lo ≤ hi) (a : n ≤ lo) : heldI lo hi n = lo := by have h := heldI_bd n c; unfold heldI at h ⊢; split <;> split <;> omega
theorem heldI_hi {lo hi n : Int} (c : lo ≤ hi) (a : hi ≤ n) : heldI lo hi n = hi := by have h := heldI_bd n c; unfold heldI at h ⊢; split <;> split <;> omega

theorem ret_dr {k : IntKind} {a b : Int} {w w' : World} (h : a = b) (d : Dr w w') : Ending.returned (.int k a) = .returned (.int k b) ∧ Dr w w' := ⟨by rw [h], d⟩
theorem ret_same {k : IntKind} {a b : Int} {w : World} (h : a = b) : Ending.returned (.int k a) = .returned (.int k b) ∧ w = w := ⟨by rw [h], rfl⟩
theorem ret_bool {a b : Bool} {w : World} (h : a = b) : Ending.returned (.bool a) = .returned (.bool b) ∧ w = w := ⟨by rw [h], rfl⟩

/-! ### held: each row of the table -/
theorem held0 (n : Int) (w : World) (t : Tab w) : Calls Tryd.prog 54 #[.int .i64 n, .int .i64 0] w fun e w' => e = .returned (.int .i64 (heldI 0 1073741824 n)) ∧ Dr w w' := by
  obtain ⟨h0, h1, -⟩ := t
  go_enter Tryd.func54, Tryd.ntmps54
  go_wp2
  go_quiet (fail)
  go_wp2
  all_goals go_ret
  all_goals exact ret_dr (by unfold heldI; repeat (first | rw [if_pos (by assumption)] | rw [if_neg (by omega)])) ⟨_, rfl⟩
theorem held1 (n : Int) (w : World) (t : Tab w) : Calls Tryd.prog 54 #[.int .i64 n, .int .i64 1] w fun e w' => e = .returned (.int .i64 (heldI 0 1073741824 n)) ∧ Dr w w' := by
  obtain ⟨-, -, h0, h1, -⟩ := t
  go_enter Tryd.func54, Tryd.ntmps54
  go_wp2
  go_quiet (fail)
  go_wp2
  all_goals go_ret
  all_goals exact ret_dr (by unfold heldI; repeat (first | rw [if_pos (by assumption)] | rw [if_neg (by omega)])) ⟨_, rfl⟩
theorem held2 (n : Int) (w : World) (t : Tab w) : Calls Tryd.prog 54 #[.int .i64 n, .int .i64 2] w fun e w' => e = .returned (.int .i64 (heldI 0 16777212 n)) ∧ Dr w w' := by
  obtain ⟨-, -, -, -, h0, h1, -⟩ := t
  go_enter Tryd.func54, Tryd.ntmps54
  go_wp2
  go_quiet (fail)
  go_wp2
  all_goals go_ret
  all_goals exact ret_dr (by unfold heldI; repeat (first | rw [if_pos (by assumption)] | rw [if_neg (by omega)])) ⟨_, rfl⟩
theorem held3 (n : Int) (w : World) (t : Tab w) : Calls Tryd.prog 54 #[.int .i64 n, .int .i64 3] w fun e w' => e = .returned (.int .i64 (heldI 0 16777212 n)) ∧ Dr w w' := by
  obtain ⟨-, -, -, -, -, -, h0, h1, -⟩ := t
  go_enter Tryd.func54, Tryd.ntmps54
  go_wp2
  go_quiet (fail)
  go_wp2
  all_goals go_ret
  all_goals exact ret_dr (by unfold heldI; repeat (first | rw [if_pos (by assumption)] | rw [if_neg (by omega)])) ⟨_, rfl⟩
theorem held4 (n : Int) (w : World) (t : Tab w) : Calls Tryd.prog 54 #[.int .i64 n, .int .i64 4] w fun e w' => e = .returned (.int .i64 (heldI 0 1048576 n)) ∧ Dr w w' := by
  obtain ⟨-, -, -, -, -, -, -, -, h0, h1, -⟩ := t
  go_enter Tryd.func54, Tryd.ntmps54
  go_wp2
  go_quiet (fail)
  go_wp2
  all_goals go_ret
  all_goals exact ret_dr (by unfold heldI; repeat (first | rw [if_pos (by assumption)] | rw [if_neg (by omega)])) ⟨_, rfl⟩
theorem held5 (n : Int) (w : World) (t : Tab w) : Calls Tryd.prog 54 #[.int .i64 n, .int .i64 5] w fun e w' => e = .returned (.int .i64 (heldI (-1) 1048576 n)) ∧ Dr w w' := by
  obtain ⟨-, -, -, -, -, -, -, -, -, -, h0, h1⟩ := t
  go_enter Tryd.func54, Tryd.ntmps54
  go_wp2
  go_quiet (fail)
  go_wp2
  all_goals go_ret
  all_goals exact ret_dr (by unfold heldI; repeat (first | rw [if_pos (by assumption)] | rw [if_neg (by omega)])) ⟨_, rfl⟩

/-! ### join, upper, lower -/
theorem or_u64 (a b : Int) (i : Nat) (hi : i ≤ 24) (h0 : 0 ≤ a) (h1 : a ≤ 1073741824) (h2 : 0 ≤ b) (h3 : b < 2 ^ i) : wrap64 (bits .or .u64 (a * 2 ^ i) b) = a * 2 ^ i + b := by
  obtain ⟨x, rfl⟩ := Int.eq_ofNat_of_zero_le h0
  obtain ⟨y, rfl⟩ := Int.eq_ofNat_of_zero_le h2
  have hp : 2 ^ i ≤ 2 ^ 24 := Nat.pow_le_pow_right (by decide) hi
  have hy : y < 2 ^ i := by
    have : ((2 ^ i : Nat) : Int) = (2 : Int) ^ i := by simp
    omega
  have hx : x * 2 ^ i ≤ 1073741824 * 2 ^ 24 := Nat.mul_le_mul (by omega) hp
  have e : ((x : Int) * 2 ^ i) = ((x * 2 ^ i : Nat) : Int) := by simp
  rw [e, u64_or_nat _ _ (by omega) (by omega), nat_join i _ _ (Nat.mul_mod_left _ _) hy, IntWalk.wrap64_in _ ⟨by omega, by omega⟩]
  omega
theorem join1 (a b : Int) (w : World) (h0 : 0 ≤ a) (h1 : a ≤ 1073741824) (h2 : 0 ≤ b) (h3 : b < 2) :
    Calls Tryd.prog 55 #[.int .i64 a, .int .i64 b, .int .u64 1] w fun e w' => e = .returned (.int .i64 (a * 2 + b)) ∧ w' = w := by
  go_enter Tryd.func55, Tryd.ntmps55
  go_wp2
  go_ret
  exact ret_same (or_u64 a b 1 (by decide) h0 h1 h2 h3)
theorem join24 (a b : Int) (w : World) (h0 : 0 ≤ a) (h1 : a ≤ 1073741824) (h2 : 0 ≤ b) (h3 : b < 16777216) :
    Calls Tryd.prog 55 #[.int .i64 a, .int .i64 b, .int .u64 24] w fun e w' => e = .returned (.int .i64 (a * 16777216 + b)) ∧ w' = w := by
  go_enter Tryd.func55, Tryd.ntmps55
  go_wp2
  go_ret
  exact ret_same (or_u64 a b 24 (by decide) h0 h1 h2 h3)
theorem join21 (a b : Int) (w : World) (h0 : 0 ≤ a) (h1 : a ≤ 1073741824) (h2 : 0 ≤ b) (h3 : b < 2097152) :
    Calls Tryd.prog 55 #[.int .i64 a, .int .i64 b, .int .u64 21] w fun e w' => e = .returned (.int .i64 (a * 2097152 + b)) ∧ w' = w := by
  go_enter Tryd.func55, Tryd.ntmps55
  go_wp2
  go_ret
  exact ret_same (or_u64 a b 21 (by decide) h0 h1 h2 h3)
/-- A word as its 64 bits. -/
def un (a : Int) : Int := a % 18446744073709551616
theorem un_in {a : Int} (h0 : 0 ≤ a) (h1 : a ≤ 9223372036854775807) : un a = a := by unfold un; omega
theorem wrap_un (a : Int) : IntKind.u64.wrap a = un a := IntKind.wrap_u64 a
theorem un_bd (a : Int) : 0 ≤ un a ∧ un a < 18446744073709551616 := by unfold un; omega
theorem up_u64 (a d : Int) (hd : 2 ≤ d) : wrap64 (IntKind.u64.wrap a / d) = un a / d := by
  have hb := un_bd a
  rw [wrap_un]
  have h2 : 0 ≤ un a / d := Int.ediv_nonneg hb.1 (by omega)
  have h1 := Int.ediv_mul_le (un a) (show d ≠ 0 by omega)
  have h3 := Int.mul_le_mul_of_nonneg_left hd h2
  exact IntWalk.wrap64_in _ ⟨by omega, by omega⟩
theorem low_u64 (a : Int) (i m : Nat) (hm : m + 1 = 2 ^ i) (hi : i ≤ 24) : wrap64 (bits .and .u64 (IntKind.u64.wrap a) (m : Int)) = a % ((m + 1 : Nat) : Int) := by
  have hb := un_bd a
  rw [wrap_un]
  obtain ⟨x, hx⟩ := Int.eq_ofNat_of_zero_le hb.1
  have hp : 2 ^ i ≤ 2 ^ 24 := Nat.pow_le_pow_right (by decide) hi
  have hpos : 0 < 2 ^ i := Nat.two_pow_pos i
  have hlt : x % 2 ^ i < 2 ^ i := Nat.mod_lt _ hpos
  rw [hx, u64_and_nat _ _ (by omega) (by omega), show m = 2 ^ i - 1 by omega, Nat.and_two_pow_sub_one_eq_mod, IntWalk.wrap64_in _ ⟨by omega, by omega⟩, show 2 ^ i - 1 + 1 = 2 ^ i by omega, Int.natCast_emod, ← hx]
  unfold un
  refine Int.emod_emod_of_dvd _ ?_
  have : (18446744073709551616 : Nat) = 2 ^ i * 2 ^ (64 - i) := by rw [← Nat.pow_add, show i + (64 - i) = 64 by omega]
  exact ⟨((2 ^ (64 - i) : Nat) : Int), by rw [← Int.natCast_mul, ← this]; rfl⟩
/-! ### The face -/
def bit (b : Bool) : Int := if b then 1 else 0
def nextI (p : Int) (b : Bool) : Int := heldI 0 1073741824 p * 2 + bit b
def stateI (v : Int) : Int := heldI 0 16777212 v + 3
def versionI (s : Int) : Int := if s < 3 then -1 else s - 3
def claimI (s p : Int) : Int := heldI 0 1073741824 s * 16777216 + heldI 0 16777212 p
def dataI (d v : Int) : Int := heldI 0 1048576 d * 2097152 + (heldI (-1) 1048576 v + 1)
theorem next_any (p : Int) (b : Bool) (w : World) (t : Tab w) : Calls Tryd.prog 44 #[.int .i64 p, .bool b] w fun e w' => e = .returned (.int .i64 (nextI p b)) ∧ Dr w w' := by
  have hb := heldI_bd (lo := 0) (hi := 1073741824) p (by decide)
  cases b
  all_goals
    go_enter Tryd.func44, Tryd.ntmps44
    go_wp2_with fail
    refine (held0 _ _ t).mono ?_
    rintro e w' ⟨rfl, m, rfl⟩
    go_wp2_with fail
    refine (join1 _ _ _ hb.1 hb.2 (by decide) (by decide)).mono ?_
    rintro e w' ⟨rfl, rfl⟩
    go_wp2
    go_ret
    exact ret_dr (by simp [nextI, bit]) ⟨m, rfl⟩
theorem state_any (v : Int) (w : World) (t : Tab w) : Calls Tryd.prog 43 #[.int .i64 v] w fun e w' => e = .returned (.int .i64 (stateI v)) ∧ Dr w w' := by
  have hb := heldI_bd (lo := 0) (hi := 16777212) v (by decide)
  go_enter Tryd.func43, Tryd.ntmps43
  go_wp2_with fail
  refine (held2 _ _ t).mono ?_
  rintro e w' ⟨rfl, m, rfl⟩
  go_wp2
  go_ret
  exact ret_dr rfl ⟨_, rfl⟩
def markB (a : Int) : Bool := decide (a % 2 = 1)
end Go.Proofs.YtdnilnjlbobcmaaDoor.Word
/- Regions that draw their order, walked by hand: operations that read, and calls that make new blocks alone, are taken first, wherever they stand; all others are met one by one, whatever new blocks were laid between. -/

namespace Go.Proofs.YtdnilnjlbobcmaaDoor.Ar
open Go.RowKit
section
variable {P : Program} {ops : Array Oper} {Q : Exit → Act → World → Prop} {md : Region.Mode} {w0 : World} {S : List Nat}
/-- Whatever order is picked, whatever new blocks are laid between any two operations; blocks of w0 stay. -/
def Env (P : Program) (md : Region.Mode) (ops : Array Oper) (Q : Exit → Act → World → Prop) (S : List Nat) (w0 : World) : Nat → Array Bool → Act → World → Prop
  | 0, listed, a, w => ∀ w2, Fr [] w w2 → Region.ready md ops listed = [] ∧ Q .normal a w2
  | f + 1, listed, a, w => ∀ w2, Fr [] w w2 → (Region.ready md ops listed = [] → Q .normal a w2) ∧
      ∀ i ∈ Region.ready md ops listed, wpOp P ops Q i (fun a' w' => Fr S w0 w' ∧ Env P md ops Q S w0 f (listed.setIfInBounds i true) a' w') a w2
theorem Env.more {f : Nat} {listed : Array Bool} {a : Act} {w w' : World} (h : Env P md ops Q S w0 f listed a w) (g : Fr [] w w') : Env P md ops Q S w0 f listed a w' := by
  cases f with
  | zero => exact fun w2 h2 => h w2 (g.trans h2)
  | succ f => exact fun w2 h2 => h w2 (g.trans h2)
theorem Env.sound : ∀ (f : Nat) (listed : Array Bool) (a : Act) (w : World), Env P md ops Q S w0 f listed a w → wpAny P md ops Q f listed a w
  | 0, _, _, w, h => h w (Fr.refl _ _)
  | f + 1, _, _, w, h => ⟨(h w (Fr.refl _ _)).1, fun i hi => wpOp_mono (fun a' w' hh => Env.sound f _ a' w' hh.2) ((h w (Fr.refl _ _)).2 i hi)⟩
/-- In whatever world above w0 the operation leaves v in its slot, and new blocks alone. -/
def EnvY (P : Program) (ops : Array Oper) (S : List Nat) (w0 : World) (o : Oper) (v : Value) (a : Act) : Prop :=
  (Region.wanted o (yielded ops a.tmps) = true ∧ ∀ w, Fr S w0 w → ∃ u, o.quietAt P a (fun w' => Fr [] w w') w u ∧ (o.dst = none ∨ u = v)) ∨
  (Region.wanted o (yielded ops a.tmps) = false ∧ v = undef)
theorem put_same {a : Act} {d : Option Tmp} {u v : Value} (h : d = none ∨ u = v) : a.put d u = a.put d v := by
  rcases h with rfl | rfl <;> rfl
theorem wp_of_quietAt {o : Oper} {a : Act} {w : World} {v : Value} {K : Act → World → Prop} (hu : o.quietAt P a (fun w' => Fr [] w w') w v) (h : ∀ w', Fr [] w w' → K (a.put o.dst v) w') : o.wp P a w K Q := by
  unfold Oper.quietAt at hu
  unfold Oper.wp
  generalize (execOp a.eval o).run P w = r at *
  cases r with
  | ok n w' =>
    cases n <;> simp only [Oper.quietUpon] at hu <;> simp only [Oper.upon]
    case value u => obtain ⟨e1, e2⟩ := hu; rw [e1, e2]; exact h _ (Fr.refl _ _)
    case skip => obtain ⟨e1, e2⟩ := hu; rw [e1, ← e2]; exact h _ (Fr.refl _ _)
    case enter f args => obtain ⟨e1, hc⟩ := hu; rw [e1]; exact hc.mono fun e w'' ⟨he, hw''⟩ => by subst he; exact h _ hw''
  | halt x w' => simp only [Oper.quietUpon] at hu
theorem EnvY.wpOp {i : Nat} {o : Oper} {v : Value} {a : Act} (hi : ops[i]? = some o) (hy : EnvY P ops S w0 o v a) {K : Act → World → Prop} {w : World} (hw : Fr S w0 w)
    (h : ∀ w', Fr [] w w' → K (a.put o.dst v) w') : wpOp P ops Q i K a w := by
  unfold Go.wpOp
  simp only [hi]
  rcases hy with ⟨hw1, hv⟩ | ⟨hw1, rfl⟩
  · simp only [hw1, if_true]
    obtain ⟨u, hu, he⟩ := hv w hw
    exact .inl (wp_of_quietAt hu fun w' hw' => by rw [put_same he]; exact h w' hw')
  · simp only [hw1, Bool.false_eq_true, if_false]; exact h w (Fr.refl _ _)
theorem EnvY.of_same {o : Oper} {v : Value} {a a' : Act} (hy : EnvY P ops S w0 o v a) (he : execOp a'.eval o = execOp a.eval o)
    (hw : Region.wanted o (yielded ops a'.tmps) = Region.wanted o (yielded ops a.tmps)) : EnvY P ops S w0 o v a' := by
  unfold EnvY Oper.quietAt at *
  rw [he, hw]; exact hy
/-- What another operation does is the same with this one's value in its slot, or not. -/
theorem EnvY.other {j : Nat} {oi oj : Oper} {v : Value} (hj : ops[j]? = some oj) (hap : oi.apart ops oj = true)
    (hsi : ∀ cs b, oi.op ≠ .select cs b) (hsj : ∀ cs b, oj.op ≠ .select cs b)
    (hQ : ∀ c a d v w, Q (.panic c) (a.put d v) w → Q (.panic c) a w) {K : Act → World → Prop} {a : Act} {w : World}
    (hy : EnvY P ops S w0 oi v a) (h : Go.wpOp P ops Q j K (a.put oi.dst v) w) :
    Go.wpOp P ops Q j (fun a' w' => EnvY P ops S w0 oi v a' ∧ K (a'.put oi.dst v) w') a w := by
  obtain ⟨h1, h2, h3⟩ := Oper.apart_spec hap
  have keep : ∀ (a : Act), EnvY P ops S w0 oi v a → ∀ u, EnvY P ops S w0 oi v (a.put oj.dst u) := fun a hy u =>
    hy.of_same (execOp_put oi hsi a oj.dst u h3) (wanted_put oi a oj.dst u h3)
  have keepD : ∀ d, EnvY P ops S w0 oi v { a with defers := d :: a.defers } := fun d => hy.of_same rfl rfl
  unfold Go.wpOp at *
  simp only [hj] at *
  rw [wanted_put oj a oi.dst v h1] at h
  by_cases hw : Region.wanted oj (yielded ops a.tmps) = true
  · rw [if_pos hw] at h ⊢
    refine h.imp (fun h => ?_) (fun ⟨hasks, hlets⟩ => ⟨by unfold Oper.asks at *; rw [execOp_put oj hsj a oi.dst v h1] at hasks; exact hasks, hlets⟩)
    unfold Oper.wp at *
    rw [execOp_put oj hsj a oi.dst v h1] at h
    generalize (execOp a.eval oj).run P w = r at *
    cases r with
    | ok n w' =>
      cases n <;> simp only [Oper.upon] at h ⊢
      case value u => exact ⟨keep a hy u, by rw [← Act.put_comm a v u h2]; exact h⟩
      case skip => exact ⟨keep a hy _, by rw [← Act.put_comm a v undef h2]; exact h⟩
      case defer d => exact ⟨keep _ (keepD d) _, by rw [← Act.put_comm _ v undef h2, ← Act.put_defers]; exact h⟩
      case enter f args =>
        refine Calls.mono h fun e w'' he => ?_
        cases e with
        | returned u => exact ⟨keep a hy u, by rw [← Act.put_comm a v u h2]; exact he⟩
        | panicked c => exact hQ _ _ _ _ _ he
        | outgrown => exact he
      case row row args => exact Rows.mono h fun u w'' he => ⟨keep a hy u, by rw [← Act.put_comm a v u h2]; exact he⟩
    | halt x w' =>
      cases x <;> simp only [Oper.upon] at h ⊢
      case panic u => exact hQ _ _ _ _ _ h
  · rw [if_neg hw] at h ⊢
    exact ⟨keep a hy _, by rw [← Act.put_comm a v undef h2]; exact h⟩
/-- It may be taken first. -/
theorem Env.first {i : Nat} {oi : Oper} {v : Value} (hi : ops[i]? = some oi) (hsel : Region.noSelect ops = true)
    (hQ : ∀ c a d v w, Q (.panic c) (a.put d v) w → Q (.panic c) a w) : ∀ (f : Nat) (listed : Array Bool) (a : Act) (w : World),
      (∀ j oj, ops[j]? = some oj → j ≠ i → listed.getD j true = false → (∀ e ∈ oj.after, Region.binds md e = true → e.on ≠ i) → oi.apart ops oj = true) →
      i ∈ Region.ready md ops listed → EnvY P ops S w0 oi v a → Fr S w0 w →
      Env P md ops Q S w0 f (listed.setIfInBounds i true) (a.put oi.dst v) w → Env P md ops Q S w0 (f + 1) listed a w
  | f, listed, a, w, hfree, hr, hy, hw, H => fun w2 h2 => by
    refine ⟨fun h => (by rw [h] at hr; cases hr), fun j hj => ?_⟩
    by_cases hji : j = i
    · subst hji; exact hy.wpOp hi (hw.then h2) fun w' hw' => ⟨(hw.then h2).then hw', H.more (h2.trans hw')⟩
    · have hj' := ready_mono (i := i) hj hji
      cases f with
      | zero => have := (H w2 h2).1; rw [this] at hj'; cases hj'
      | succ f =>
        have h1 := (H w2 h2).2 j hj'
        obtain ⟨hjun, oj, hoj, hall⟩ := mem_ready.1 hj
        have hnot : ∀ e ∈ oj.after, Region.binds md e = true → e.on ≠ i := fun e he hb heq => by
          have g1 := hall e he hb
          have g0 := (mem_ready.1 hr).1
          rw [heq] at g1
          rcases Nat.lt_or_ge i listed.size with h' | h'
          · simp [h'] at g0 g1; rw [g0] at g1; cases g1
          · simp [Array.getElem?_eq_none h'] at g1
        have g2 := hy.other hoj (hfree j oj hoj hji hjun hnot) (fun cs b => Region.noSelect_spec hsel i oi cs b hi) (fun cs b => Region.noSelect_spec hsel j oj cs b hoj) hQ h1
        have hfree' : ∀ k ok, ops[k]? = some ok → k ≠ i → (listed.setIfInBounds j true).getD k true = false →
            (∀ e ∈ ok.after, Region.binds md e = true → e.on ≠ i) → oi.apart ops ok = true := fun k ok hk hki hun hno => by
          refine hfree k ok hk hki ?_ hno
          by_cases hjk : j = k
          · subst hjk; exact hjun
          · rw [getD_set_ne true hjk] at hun; exact hun
        refine wpOp_mono (fun a' w' h3 => ⟨h3.2.1, Env.first hi hsel hQ f (listed.setIfInBounds j true) a' w' hfree' (ready_mono hr (Ne.symm hji)) h3.1 h3.2.1 ?_⟩) g2
        rw [Array.setIfInBounds_comm _ _ hji]
        exact h3.2.2
/-- The operations that a mask picks. -/
def sel : List Bool → List Oper → List Oper
  | true :: m, o :: r => o :: sel m r
  | false :: m, _ :: r => sel m r
  | _, _ => []
/-- Each may come up in its turn, and may be taken first; what has come up behind them. -/
def passB (md : Region.Mode) (ops : Array Oper) : Nat → List Bool → Array Bool → Bool
  | k, true :: m, listed => (Region.ready md ops listed).contains k && Region.free md ops listed k && passB md ops (k + 1) m (listed.setIfInBounds k true)
  | k, false :: m, listed => passB md ops (k + 1) m listed
  | _, [], _ => true
def markB : Nat → List Bool → Array Bool → Array Bool
  | k, true :: m, listed => markB (k + 1) m (listed.setIfInBounds k true)
  | k, false :: m, listed => markB (k + 1) m listed
  | _, [], listed => listed
def countB : List Bool → Nat
  | true :: m => countB m + 1
  | false :: m => countB m
  | [] => 0
/-- Each slot is written once, and is there. -/
def dstB (n : Nat) : List Oper → Bool
  | [] => true
  | o :: r => (match o.dst with | some d => decide (d < n) && r.all fun x => x.dst != some d | none => true) && dstB n r
theorem size_put (a : Act) (d : Option Tmp) (v : Value) : (a.put d v).tmps.size = a.tmps.size := by cases d <;> simp [Act.put]
/-- A slot that is written no more holds what it held. -/
theorem quiet_keeps {C : World → Prop} {aE : Act} {d : Nat} : ∀ (l : List Oper) (a : Act), (l.all fun x => x.dst != some d) = true → wpQuiet P ops C (fun a' => a' = aE) l a → aE.tmps[d]? = a.tmps[d]?
  | [], a, _, h => by rw [show a = aE from h]
  | o :: r, a, hd, h => by
    simp only [List.all_cons, Bool.and_eq_true] at hd
    have hput : ∀ v, (a.put o.dst v).tmps[d]? = a.tmps[d]? := fun v => by
      cases ho : o.dst with
      | none => rfl
      | some e =>
        have hne : e ≠ d := fun he => by subst he; rw [ho] at hd; simp at hd
        simp [Act.put, Array.getElem?_setIfInBounds_ne hne]
    unfold wpQuiet at h
    split at h
    · obtain ⟨v, _, h2⟩ := h; exact (quiet_keeps r _ hd.2 h2).trans (hput v)
    · exact (quiet_keeps r _ hd.2 h).trans (hput _)
theorem env_pass_list (hs : Region.noSelect ops = true) (hQ : ∀ c a d v w, Q (.panic c) (a.put d v) w → Q (.panic c) a w) {aE : Act} {n f : Nat} :
    ∀ (m : List Bool) (L : List Oper) (k : Nat) (listed : Array Bool) (a : Act) (w : World), (∀ j, L[j]? = ops[k + j]?) → passB md ops k m listed = true → dstB n (sel m L) = true → a.tmps.size = n → Fr S w0 w →
      (∀ wf, Fr S w0 wf → wpQuiet P ops (fun w' => ∃ s : In wf, w' = s.at_) (fun a' => a' = aE) (sel m L) a) → Env P md ops Q S w0 f (markB k m listed) aE w → Env P md ops Q S w0 (f + countB m) listed a w
  | [], L, k, listed, a, w, _, _, _, _, _, h, H => by
    have h0 : a = aE := by have := h w0 (Fr.refl _ _); cases L <;> exact this
    subst h0; exact H
  | false :: m, [], k, listed, a, w, hL, hB, hd, hn, hw, h, H => env_pass_list hs hQ m [] (k + 1) listed a w (fun j => by have := hL (j + 1); simpa [Nat.add_assoc, Nat.add_comm 1 j] using this) hB (by cases m with | nil => rfl | cons b m => cases b <;> rfl) hn hw (fun wf hf => by have := h wf hf; cases m with | nil => exact this | cons b m => cases b <;> exact this) H
  | false :: m, o :: L, k, listed, a, w, hL, hB, hd, hn, hw, h, H => env_pass_list hs hQ m L (k + 1) listed a w (fun j => by have := hL (j + 1); simpa [Nat.add_assoc, Nat.add_comm 1 j] using this) hB hd hn hw h H
  | true :: m, [], k, listed, a, w, hL, hB, _, _, _, _, _ => by
    exfalso
    simp only [passB, Bool.and_eq_true] at hB
    have hr : k ∈ Region.ready md ops listed := by simpa using hB.1.1
    obtain ⟨_, o, ho, _⟩ := mem_ready.1 hr
    have := hL 0
    simp [ho] at this
  | true :: m, o :: L, k, listed, a, w, hL, hB, hd, hn, hw, h, H => by
    have h0 : ops[k]? = some o := by simpa using (hL 0).symm
    simp only [passB, Bool.and_eq_true] at hB
    obtain ⟨⟨hr, hf⟩, hB'⟩ := hB
    simp only [sel, dstB, Bool.and_eq_true] at hd
    obtain ⟨hd1, hd2⟩ := hd
    -- the value, and what follows
    have key : ∃ v, EnvY P ops S w0 o v a ∧ ∀ wf, Fr S w0 wf → wpQuiet P ops (fun w' => ∃ s : In wf, w' = s.at_) (fun a' => a' = aE) (sel m L) (a.put o.dst v) := by
      by_cases hw1 : Region.wanted o (yielded ops a.tmps) = true
      · have h' : ∀ wf, Fr S w0 wf → o.quiet P a (fun w' => ∃ s : In wf, w' = s.at_) (wpQuiet P ops (fun w' => ∃ s : In wf, w' = s.at_) (fun a' => a' = aE) (sel m L)) := fun wf hf => by
          have := h wf hf
          simp only [sel, wpQuiet] at this
          rwa [if_pos hw1] at this
        obtain ⟨v, _, hv2⟩ := h' w0 (Fr.refl _ _)
        have same : ∀ wf, Fr S w0 wf → ∀ u, wpQuiet P ops (fun w' => ∃ s : In wf, w' = s.at_) (fun a' => a' = aE) (sel m L) (a.put o.dst u) → o.dst = none ∨ u = v := fun wf hf u hu => by
          cases hod : o.dst with
          | none => exact .inl rfl
          | some d =>
            rw [hod] at hd1 hu hv2
            simp only [Bool.and_eq_true, decide_eq_true_eq] at hd1
            have e1 := quiet_keeps (sel m L) _ hd1.2 hu
            have e2 := quiet_keeps (sel m L) _ hd1.2 hv2
            have hlt : d < a.tmps.size := by rw [hn]; exact hd1.1
            rw [e1] at e2
            simp [Act.put, hlt] at e2
            exact .inr e2
        refine ⟨v, .inl ⟨hw1, fun wf hf => ?_⟩, fun wf hf => ?_⟩
        · obtain ⟨u, hu1, hu2⟩ := h' wf hf
          refine ⟨u, ?_, same wf hf u hu2⟩
          have hq := hu1 wf ⟨⟨wf, Fr.refl _ _⟩, rfl⟩
          unfold Oper.quietAt at hq ⊢
          generalize (execOp a.eval o).run P wf = r at *
          cases r with
          | ok x w' =>
            cases x <;> simp only [Oper.quietUpon] at hq ⊢
            case value => exact hq
            case skip => exact hq
            case enter g args => exact ⟨hq.1, hq.2.mono fun e w'' ⟨he, s, hs⟩ => ⟨he, hs ▸ s.fr⟩⟩
          | halt x w' => exact hq
        · obtain ⟨u, _, hu2⟩ := h' wf hf
          rw [← put_same (same wf hf u hu2)]; exact hu2
      · refine ⟨undef, .inr ⟨by simpa using hw1, rfl⟩, fun wf hf => ?_⟩
        have := h wf hf
        simp only [sel, wpQuiet] at this
        rwa [if_neg hw1] at this
    obtain ⟨v, hy, hK⟩ := key
    exact Env.first h0 hs hQ (f + countB m) listed a w (Region.free_spec h0 hf) (by simpa using hr) hy hw
      (env_pass_list hs hQ m L (k + 1) _ _ w (fun j => by have := hL (j + 1); simpa [Nat.add_assoc, Nat.add_comm 1 j] using this) hB' hd2 (by rw [size_put]; exact hn) hw hK H)
end
section
variable {P : Program} {l : List Oper} {Q : Exit → Act → World → Prop} {w0 : World} {S : List Nat}
theorem wp_region_env {id : Nat} {a : Act} {w : World} (hm : P.follows .mixedOrders = true) (S : List Nat) (h : ∀ w1, Fr [] w w1 → Env P .any l.toArray Q S w l.length (Array.replicate l.length false) a w1) : (Code.region id l.toArray true).wp P Q a w :=
  wp_region_any hm (by simpa using Env.sound _ _ _ _ (h w.drew (Fr.refl [] w).drew))
/-- The operations that the mask picks are taken first, in the order of the text. -/
theorem env_pass (m : List Bool) (f : Nat) {g n : Nat} {listed listed' : Array Bool} {a : Act} {w : World} (hf : f + countB m = g) (hs : Region.noSelect l.toArray = true) (hB : passB .any l.toArray 0 m listed = true)
    (hd : dstB n (sel m l) = true) (hn : a.tmps.size = n) (hl : markB 0 m listed = listed') (hQ : ∀ c a d v w, Q (.panic c) (a.put d v) w → Q (.panic c) a w) (hw : Fr S w0 w)
    (h : ∃ aE, (∀ wf, Fr S w0 wf → wpQuiet P l.toArray (fun w' => ∃ s : In wf, w' = s.at_) (fun a' => a' = aE) (sel m l) a) ∧ Env P .any l.toArray Q S w0 f listed' aE w) : Env P .any l.toArray Q S w0 g listed a w := by
  subst hf; subst hl
  obtain ⟨aE, h, H⟩ := h
  exact env_pass_list hs hQ m l 0 listed a w (by simp) hB hd hn hw h H
/-- Q where a list of operations ends in a way of its own; K where it goes through. -/
def Nx (Q : Exit → Act → World → Prop) (K : Act → World → Prop) : Exit → Act → World → Prop
  | .normal, a, w => K a w
  | e, a, w => Q e a w
theorem wpOp_of_list {i : Nat} {o : Oper} {a : Act} {w : World} {K : Act → World → Prop} (ho : l[i]? = some o) (hl : LetsOut (Nx Q K) → LetsOut Q) (h : wpList P l.toArray (Nx Q K) [o] a w) : wpOp P l.toArray Q i K a w := by
  unfold wpOp
  simp only [List.getElem?_toArray, ho]
  simp only [wpList] at h
  split
  · rename_i hw
    rw [if_pos hw] at h
    refine h.imp (fun h => ?_) (fun ⟨h1, h2⟩ => ⟨h1, hl h2⟩)
    unfold Oper.wp at *
    generalize (execOp a.eval o).run P w = r at *
    cases r with
    | ok n w' =>
      cases n <;> simp only [Oper.upon] at h ⊢ <;> exact h
    | halt x w' => cases x <;> simp only [Oper.upon] at h ⊢ <;> exact h
  · rename_i hw
    rw [if_neg hw] at h
    exact h
theorem letsOut_nx {K : Act → World → Prop} : LetsOut (Nx Q K) → LetsOut Q := fun ⟨a, w, h⟩ => ⟨a, w, h⟩
/-- Those that may come up, each in whatever world there is then. -/
theorem env_ready (rs : List Nat) {f : Nat} {listed : Array Bool} {a : Act} {w : World} (hr : Region.ready .any l.toArray listed = rs) (hne : rs ≠ [])
    (h : ∀ w2, Fr [] w w2 → ∀ i ∈ rs, ∀ o, l[i]? = some o → wpList P l.toArray (Nx Q (fun a' w' => Fr S w0 w' ∧ Env P .any l.toArray Q S w0 f (listed.setIfInBounds i true) a' w')) [o] a w2) : Env P .any l.toArray Q S w0 (f + 1) listed a w := by
  intro w2 h2
  refine ⟨fun h0 => absurd (hr.symm.trans h0) hne, fun i hi => ?_⟩
  have hi' := hi
  rw [hr] at hi'
  obtain ⟨_, o, ho, _⟩ := mem_ready.1 hi
  have ho' : l[i]? = some o := by simpa using ho
  exact wpOp_of_list ho' letsOut_nx (h w2 h2 i hi' o ho')
theorem env_one (i : Nat) {o : Oper} {f : Nat} {listed listed' : Array Bool} {a : Act} {w : World} (hr : Region.ready .any l.toArray listed = [i]) (ho : l[i]? = some o) (hl : listed.setIfInBounds i true = listed')
    (h : ∀ w2, Fr [] w w2 → wpList P l.toArray (Nx Q (fun a' w' => Fr S w0 w' ∧ Env P .any l.toArray Q S w0 f listed' a' w')) [o] a w2) : Env P .any l.toArray Q S w0 (f + 1) listed a w := by
  subst hl
  refine env_ready [i] hr (by simp) fun w2 h2 j hj x hx => ?_
  simp only [List.mem_singleton] at hj
  subst hj
  rw [ho] at hx
  cases hx
  exact h w2 h2
theorem env_done {f : Nat} {listed : Array Bool} {a : Act} {w : World} (hr : Region.ready .any l.toArray listed = []) (h : ∀ w2, Fr [] w w2 → Q .normal a w2) : Env P .any l.toArray Q S w0 f listed a w := by
  cases f with
  | zero => exact fun w2 h2 => ⟨hr, h w2 h2⟩
  | succ f => exact fun w2 h2 => ⟨fun _ => h w2 h2, fun i hi => by rw [hr] at hi; cases hi⟩
theorem nx_normal {K : Act → World → Prop} {a : Act} {w : World} (h : K a w) : Nx Q K .normal a w := h
/-- Sublists. -/
def subs : List Nat → List (List Nat)
  | [] => [[]]
  | x :: r => subs r ++ (subs r).map (x :: ·)
theorem mem_subs {is rem : List Nat} (h : rem.Sublist is) : rem ∈ subs is := by
  induction h with
  | slnil => simp [subs]
  | cons a _ ih => simp [subs, ih]
  | cons_cons a _ ih => simp [subs, ih]
/-- What is listed when of a bag of operations those of rem are left. -/
def bagMask (L0 : Array Bool) (is rem : List Nat) : Array Bool := is.foldl (fun L i => if rem.contains i then L else L.setIfInBounds i true) L0
def bagB (md : Region.Mode) (ops : Array Oper) (L0 : Array Bool) (is : List Nat) : Bool :=
  (subs is).all fun rem => (rem == [] || Region.ready md ops (bagMask L0 is rem) == rem) && rem.all fun i => (bagMask L0 is rem).setIfInBounds i true == bagMask L0 is (rem.erase i)
/-- A bag of operations that may come in any order among themselves, none of which writes a slot: I holds whatever are left. -/
theorem env_bag (is : List Nat) (L0 : Array Bool) (I : List Nat → World → Prop) {f : Nat} {a : Act} (hB : bagB .any l.toArray L0 is = true)
    (hmore : ∀ rem w w2, I rem w → Fr [] w w2 → I rem w2)
    (hstep : ∀ rem w, rem.Sublist is → I rem w → ∀ i ∈ rem, ∀ o, l[i]? = some o → wpList P l.toArray (Nx Q (fun a' w' => a' = a ∧ Fr S w0 w' ∧ I (rem.erase i) w')) [o] a w)
    (hend : ∀ w, I [] w → Env P .any l.toArray Q S w0 f (bagMask L0 is []) a w) :
    ∀ (n : Nat) (rem : List Nat) (w : World), rem.length = n → rem.Sublist is → I rem w → Env P .any l.toArray Q S w0 (f + n) (bagMask L0 is rem) a w := by
  intro n
  induction n with
  | zero => intro rem w hl hs hI; obtain rfl := List.eq_nil_of_length_eq_zero hl; exact hend w hI
  | succ n ih =>
    intro rem w hl hs hI
    have hb := List.all_eq_true.1 hB rem (mem_subs hs)
    simp only [Bool.and_eq_true, Bool.or_eq_true, beq_iff_eq] at hb
    have hne : rem ≠ [] := by intro e; subst e; simp at hl
    have hr := hb.1.resolve_left hne
    have he := List.all_eq_true.1 hb.2
    intro w2 h2
    refine ⟨fun h0 => absurd (hr.symm.trans h0) hne, fun i hi => ?_⟩
    have hi' := hi
    rw [hr] at hi'
    obtain ⟨_, o, ho, _⟩ := mem_ready.1 hi
    have ho' : l[i]? = some o := by simpa using ho
    have hi2 := he i hi'
    simp only [beq_iff_eq] at hi2
    rw [hi2]
    refine wpOp_mono (fun a' w' ⟨h1, h2, h3⟩ => ?_) (wpOp_of_list ho' letsOut_nx (hstep rem w2 hs (hmore _ _ _ hI h2) i hi' o ho'))
    subst h1
    exact ⟨h2, ih _ _ (by rw [List.length_erase_of_mem hi']; omega) ((List.erase_sublist).trans hs) h3⟩
end
end Go.Proofs.YtdnilnjlbobcmaaDoor.Ar
/- Regions that draw their order and end in stores to blocks that they also read: first what comes in any order, then, behind all of it, what stands in the order of the text. -/

namespace Go.Proofs.YtdnilnjlbobcmaaDoor.Ar
open Go.RowKit
section
variable {P : Program} {ops : Array Oper} {Q : Exit → Act → World → Prop} {md : Region.Mode} {w0 : World} {S : List Nat} {LA : Array Bool} {g : Nat}
/-- Whatever order is picked until just those of LA are through; what is left then is walked as it comes. -/
def EnvL (P : Program) (md : Region.Mode) (ops : Array Oper) (Q : Exit → Act → World → Prop) (S : List Nat) (w0 : World) (LA : Array Bool) (g : Nat) : Nat → Array Bool → Act → World → Prop
  | 0, listed, a, w => ∀ w2, Fr [] w w2 → listed = LA ∧ wpAny P md ops Q g LA a w2
  | f + 1, listed, a, w => ∀ w2, Fr [] w w2 → Region.ready md ops listed ≠ [] ∧
      ∀ i ∈ Region.ready md ops listed, wpOp P ops Q i (fun a' w' => Fr S w0 w' ∧ EnvL P md ops Q S w0 LA g f (listed.setIfInBounds i true) a' w') a w2
theorem EnvL.more {f : Nat} {listed : Array Bool} {a : Act} {w w' : World} (h : EnvL P md ops Q S w0 LA g f listed a w) (k : Fr [] w w') : EnvL P md ops Q S w0 LA g f listed a w' := by
  cases f with
  | zero => exact fun w2 h2 => h w2 (k.trans h2)
  | succ f => exact fun w2 h2 => h w2 (k.trans h2)
theorem EnvL.sound : ∀ (f : Nat) (listed : Array Bool) (a : Act) (w : World), EnvL P md ops Q S w0 LA g f listed a w → wpAny P md ops Q (f + g) listed a w
  | 0, listed, a, w, h => by obtain ⟨rfl, h1⟩ := h w (Fr.refl _ _); rw [Nat.zero_add]; exact h1
  | f + 1, _, _, w, h => by
    rw [show f + 1 + g = (f + g) + 1 by omega]
    exact ⟨fun h0 => absurd h0 (h w (Fr.refl _ _)).1, fun i hi => wpOp_mono (fun a' w' hh => EnvL.sound f _ a' w' hh.2) ((h w (Fr.refl _ _)).2 i hi)⟩
/-- Whatever is not of LA waits for i. -/
def waitB (md : Region.Mode) (ops : Array Oper) (LA : Array Bool) (i : Nat) : Bool := (List.range LA.size).all fun j => LA.getD j true || Region.waitsFor md ops j i
theorem waitB_spec {i j : Nat} (h : waitB md ops LA i = true) (hj : LA.getD j true = false) : ∃ oj, ops[j]? = some oj ∧ ∃ e ∈ oj.after, Region.binds md e = true ∧ e.on = i := by
  unfold waitB at h
  have hlt : j < LA.size := by
    rcases Nat.lt_or_ge j LA.size with h' | h'
    · exact h'
    · simp [Array.getElem?_eq_none h'] at hj
  have := List.all_eq_true.1 h j (List.mem_range.2 hlt)
  rw [hj] at this
  exact Region.waitsFor_spec (by simpa using this)
theorem EnvL.first {i : Nat} {oi : Oper} {v : Value} (hi : ops[i]? = some oi) (hsel : Region.noSelect ops = true) (hLB : waitB md ops LA i = true)
    (hQ : ∀ c a d v w, Q (.panic c) (a.put d v) w → Q (.panic c) a w) : ∀ (f : Nat) (listed : Array Bool) (a : Act) (w : World),
      (∀ j oj, ops[j]? = some oj → j ≠ i → listed.getD j true = false → (∀ e ∈ oj.after, Region.binds md e = true → e.on ≠ i) → oi.apart ops oj = true) →
      i ∈ Region.ready md ops listed → EnvY P ops S w0 oi v a → Fr S w0 w →
      EnvL P md ops Q S w0 LA g f (listed.setIfInBounds i true) (a.put oi.dst v) w → EnvL P md ops Q S w0 LA g (f + 1) listed a w
  | f, listed, a, w, hfree, hr, hy, hw, H => fun w2 h2 => by
    refine ⟨fun h => (by rw [h] at hr; cases hr), fun j hj => ?_⟩
    by_cases hji : j = i
    · subst hji; exact hy.wpOp hi (hw.then h2) fun w' hw' => ⟨(hw.then h2).then hw', H.more (h2.trans hw')⟩
    · have hj' := ready_mono (i := i) hj hji
      obtain ⟨hjun, oj, hoj, hall⟩ := mem_ready.1 hj
      have hnot : ∀ e ∈ oj.after, Region.binds md e = true → e.on ≠ i := fun e he hb heq => by
        have g1 := hall e he hb
        have g0 := (mem_ready.1 hr).1
        rw [heq] at g1
        rcases Nat.lt_or_ge i listed.size with h' | h'
        · simp [h'] at g0 g1; rw [g0] at g1; cases g1
        · simp [Array.getElem?_eq_none h'] at g1
      cases f with
      | zero =>
        have hLA := (H w2 h2).1
        rw [hLA] at hj'
        obtain ⟨ok, hok, e, he, hb, hon⟩ := waitB_spec hLB (mem_ready.1 hj').1
        rw [hoj] at hok
        cases hok
        exact absurd hon (hnot e he hb)
      | succ f =>
        have h1 := (H w2 h2).2 j hj'
        have g2 := hy.other hoj (hfree j oj hoj hji hjun hnot) (fun cs b => Region.noSelect_spec hsel i oi cs b hi) (fun cs b => Region.noSelect_spec hsel j oj cs b hoj) hQ h1
        have hfree' : ∀ k ok, ops[k]? = some ok → k ≠ i → (listed.setIfInBounds j true).getD k true = false →
            (∀ e ∈ ok.after, Region.binds md e = true → e.on ≠ i) → oi.apart ops ok = true := fun k ok hk hki hun hno => by
          refine hfree k ok hk hki ?_ hno
          by_cases hjk : j = k
          · subst hjk; exact hjun
          · rw [getD_set_ne true hjk] at hun; exact hun
        refine wpOp_mono (fun a' w' h3 => ⟨h3.2.1, EnvL.first hi hsel hLB hQ f (listed.setIfInBounds j true) a' w' hfree' (ready_mono hr (Ne.symm hji)) h3.1 h3.2.1 ?_⟩) g2
        rw [Array.setIfInBounds_comm _ _ hji]
        exact h3.2.2
/-- All that a mask picks are waited for. -/
def waitsB (md : Region.Mode) (ops : Array Oper) (LA : Array Bool) : Nat → List Bool → Bool
  | k, true :: m => waitB md ops LA k && waitsB md ops LA (k + 1) m
  | k, false :: m => waitsB md ops LA (k + 1) m
  | _, [] => true
theorem envL_pass_list (hs : Region.noSelect ops = true) (hQ : ∀ c a d v w, Q (.panic c) (a.put d v) w → Q (.panic c) a w) {aE : Act} {n f : Nat} :
    ∀ (m : List Bool) (L : List Oper) (k : Nat) (listed : Array Bool) (a : Act) (w : World), (∀ j, L[j]? = ops[k + j]?) → passB md ops k m listed = true → waitsB md ops LA k m = true → dstB n (sel m L) = true → a.tmps.size = n → Fr S w0 w →
      (∀ wf, Fr S w0 wf → wpQuiet P ops (fun w' => ∃ s : In wf, w' = s.at_) (fun a' => a' = aE) (sel m L) a) → EnvL P md ops Q S w0 LA g f (markB k m listed) aE w → EnvL P md ops Q S w0 LA g (f + countB m) listed a w
  | [], L, k, listed, a, w, _, _, _, _, _, _, h, H => by
    have h0 : a = aE := by have := h w0 (Fr.refl _ _); cases L <;> exact this
    subst h0; exact H
  | false :: m, [], k, listed, a, w, hL, hB, hW, hd, hn, hw, h, H => envL_pass_list hs hQ m [] (k + 1) listed a w (fun j => by have := hL (j + 1); simpa [Nat.add_assoc, Nat.add_comm 1 j] using this) hB hW (by cases m with | nil => rfl | cons b m => cases b <;> rfl) hn hw (fun wf hf => by have := h wf hf; cases m with | nil => exact this | cons b m => cases b <;> exact this) H
  | false :: m, o :: L, k, listed, a, w, hL, hB, hW, hd, hn, hw, h, H => envL_pass_list hs hQ m L (k + 1) listed a w (fun j => by have := hL (j + 1); simpa [Nat.add_assoc, Nat.add_comm 1 j] using this) hB hW hd hn hw h H
  | true :: m, [], k, listed, a, w, hL, hB, _, _, _, _, _, _ => by
    exfalso
    simp only [passB, Bool.and_eq_true] at hB
    have hr : k ∈ Region.ready md ops listed := by simpa using hB.1.1
    obtain ⟨_, o, ho, _⟩ := mem_ready.1 hr
    have := hL 0
    simp [ho] at this
  | true :: m, o :: L, k, listed, a, w, hL, hB, hW, hd, hn, hw, h, H => by
    simp only [waitsB, Bool.and_eq_true] at hW
    obtain ⟨hW1, hW2⟩ := hW
    have h0 : ops[k]? = some o := by simpa using (hL 0).symm
    simp only [passB, Bool.and_eq_true] at hB
    obtain ⟨⟨hr, hf⟩, hB'⟩ := hB
    simp only [sel, dstB, Bool.and_eq_true] at hd
    obtain ⟨hd1, hd2⟩ := hd
    -- the value, and what follows
    have key : ∃ v, EnvY P ops S w0 o v a ∧ ∀ wf, Fr S w0 wf → wpQuiet P ops (fun w' => ∃ s : In wf, w' = s.at_) (fun a' => a' = aE) (sel m L) (a.put o.dst v) := by
      by_cases hw1 : Region.wanted o (yielded ops a.tmps) = true
      · have h' : ∀ wf, Fr S w0 wf → o.quiet P a (fun w' => ∃ s : In wf, w' = s.at_) (wpQuiet P ops (fun w' => ∃ s : In wf, w' = s.at_) (fun a' => a' = aE) (sel m L)) := fun wf hf => by
          have := h wf hf
          simp only [sel, wpQuiet] at this
          rwa [if_pos hw1] at this
        obtain ⟨v, _, hv2⟩ := h' w0 (Fr.refl _ _)
        have same : ∀ wf, Fr S w0 wf → ∀ u, wpQuiet P ops (fun w' => ∃ s : In wf, w' = s.at_) (fun a' => a' = aE) (sel m L) (a.put o.dst u) → o.dst = none ∨ u = v := fun wf hf u hu => by
          cases hod : o.dst with
          | none => exact .inl rfl
          | some d =>
            rw [hod] at hd1 hu hv2
            simp only [Bool.and_eq_true, decide_eq_true_eq] at hd1
            have e1 := quiet_keeps (sel m L) _ hd1.2 hu
            have e2 := quiet_keeps (sel m L) _ hd1.2 hv2
            have hlt : d < a.tmps.size := by rw [hn]; exact hd1.1
            rw [e1] at e2
            simp [Act.put, hlt] at e2
            exact .inr e2
        refine ⟨v, .inl ⟨hw1, fun wf hf => ?_⟩, fun wf hf => ?_⟩
        · obtain ⟨u, hu1, hu2⟩ := h' wf hf
          refine ⟨u, ?_, same wf hf u hu2⟩
          have hq := hu1 wf ⟨⟨wf, Fr.refl _ _⟩, rfl⟩
          unfold Oper.quietAt at hq ⊢
          generalize (execOp a.eval o).run P wf = r at *
          cases r with
          | ok x w' =>
            cases x <;> simp only [Oper.quietUpon] at hq ⊢
            case value => exact hq
            case skip => exact hq
            case enter g args => exact ⟨hq.1, hq.2.mono fun e w'' ⟨he, s, hs⟩ => ⟨he, hs ▸ s.fr⟩⟩
          | halt x w' => exact hq
        · obtain ⟨u, _, hu2⟩ := h' wf hf
          rw [← put_same (same wf hf u hu2)]; exact hu2
      · refine ⟨undef, .inr ⟨by simpa using hw1, rfl⟩, fun wf hf => ?_⟩
        have := h wf hf
        simp only [sel, wpQuiet] at this
        rwa [if_neg hw1] at this
    obtain ⟨v, hy, hK⟩ := key
    exact EnvL.first h0 hs hW1 hQ (f + countB m) listed a w (Region.free_spec h0 hf) (by simpa using hr) hy hw
      (envL_pass_list hs hQ m L (k + 1) _ _ w (fun j => by have := hL (j + 1); simpa [Nat.add_assoc, Nat.add_comm 1 j] using this) hB' hW2 hd2 (by rw [size_put]; exact hn) hw hK H)
end
section
variable {P : Program} {l : List Oper} {Q : Exit → Act → World → Prop} {w0 : World} {S : List Nat} {LA : Array Bool} {g : Nat}
theorem envL_pass (m : List Bool) (f : Nat) {g' n : Nat} {listed listed' : Array Bool} {a : Act} {w : World} (hf : f + countB m = g') (hs : Region.noSelect l.toArray = true) (hB : passB .any l.toArray 0 m listed = true) (hW : waitsB .any l.toArray LA 0 m = true)
    (hd : dstB n (sel m l) = true) (hn : a.tmps.size = n) (hl : markB 0 m listed = listed') (hQ : ∀ c a d v w, Q (.panic c) (a.put d v) w → Q (.panic c) a w) (hw : Fr S w0 w)
    (h : ∃ aE, (∀ wf, Fr S w0 wf → wpQuiet P l.toArray (fun w' => ∃ s : In wf, w' = s.at_) (fun a' => a' = aE) (sel m l) a) ∧ EnvL P .any l.toArray Q S w0 LA g f listed' aE w) : EnvL P .any l.toArray Q S w0 LA g g' listed a w := by
  subst hf; subst hl
  obtain ⟨aE, h, H⟩ := h
  exact envL_pass_list hs hQ m l 0 listed a w (by simp) hB hW hd hn hw h H
theorem envL_ready (rs : List Nat) {f : Nat} {listed : Array Bool} {a : Act} {w : World} (hr : Region.ready .any l.toArray listed = rs) (hne : rs ≠ [])
    (h : ∀ w2, Fr [] w w2 → ∀ i ∈ rs, ∀ o, l[i]? = some o → wpList P l.toArray (Nx Q (fun a' w' => Fr S w0 w' ∧ EnvL P .any l.toArray Q S w0 LA g f (listed.setIfInBounds i true) a' w')) [o] a w2) : EnvL P .any l.toArray Q S w0 LA g (f + 1) listed a w := by
  intro w2 h2
  refine ⟨fun h0 => hne (hr.symm.trans h0), fun i hi => ?_⟩
  have hi' := hi
  rw [hr] at hi'
  obtain ⟨_, o, ho, _⟩ := mem_ready.1 hi
  have ho' : l[i]? = some o := by simpa using ho
  exact wpOp_of_list ho' letsOut_nx (h w2 h2 i hi' o ho')
theorem envL_one (i : Nat) {o : Oper} {f : Nat} {listed listed' : Array Bool} {a : Act} {w : World} (hr : Region.ready .any l.toArray listed = [i]) (ho : l[i]? = some o) (hl : listed.setIfInBounds i true = listed')
    (h : ∀ w2, Fr [] w w2 → wpList P l.toArray (Nx Q (fun a' w' => Fr S w0 w' ∧ EnvL P .any l.toArray Q S w0 LA g f listed' a' w')) [o] a w2) : EnvL P .any l.toArray Q S w0 LA g (f + 1) listed a w := by
  subst hl
  intro w2 h2
  refine ⟨fun h0 => (by rw [hr] at h0; cases h0), fun j hj => ?_⟩
  rw [hr] at hj
  simp only [List.mem_singleton] at hj
  subst hj
  exact wpOp_of_list ho letsOut_nx (h w2 h2)
/-- What is left comes in the order of the text. -/
theorem envL_tail {k : Nat} {a : Act} {w : World} (hg : (l.drop k).length = g) (hB : Region.seqB .any l.toArray g k LA = true) (h : ∀ w2, Fr [] w w2 → wpList P l.toArray Q (l.drop k) a w2) : EnvL P .any l.toArray Q S w0 LA g 0 LA a w := by
  intro w2 h2
  subst hg
  exact ⟨rfl, wpAny_of_seq (md := .any) (l.drop k) k LA a w2 (fun j => by simp [List.getElem?_drop]) hB (h w2 h2)⟩
/-- A move that nothing waits for: taken first. -/
theorem take_move (i : Nat) {d : Tmp} {x : Operand} {ty : TypeId} {ps : String} {af : Array Edge} {f : Nat} {listed listed' : Array Bool} {a : Act} {w : World} (hi : l[i]? = some { dst := some d, op := Op.move x, type := ty, pos := ps, after := af, guard := none })
    (hs : Region.noSelect l.toArray = true) (hf : Region.free .any l.toArray listed i = true) (hr : (Region.ready .any l.toArray listed).contains i = true) (hl : listed.setIfInBounds i true = listed') (hQ : ∀ c a d v w, Q (.panic c) (a.put d v) w → Q (.panic c) a w)
    (h : wpAny P .any l.toArray Q f listed' (a.put (some d) (a.eval x)) w) : wpAny P .any l.toArray Q (f + 1) listed a w := by
  subst hl
  exact wpAny_take (by simpa using hi) hs hf hr (fun c a w => hQ c a (some d) _ w) (.inl ⟨rfl, fun w => rfl⟩) h
theorem any_envL {n : Nat} {listed : Array Bool} {a : Act} {w : World} (S : List Nat) (w0 : World) (LA : Array Bool) (f g : Nat) (hl : f + g = n) (h : EnvL P .any l.toArray Q S w0 LA g f listed a w) : wpAny P .any l.toArray Q n listed a w := by
  subst hl; exact EnvL.sound _ _ _ _ h
theorem wp_region_free {id : Nat} {a : Act} {w : World} (hm : P.follows .mixedOrders = true) (h : wpAny P .any l.toArray Q l.length (Array.replicate l.length false) a w.drew) : (Code.region id l.toArray true).wp P Q a w :=
  wp_region_any hm (by simpa using h)
end
end Go.Proofs.YtdnilnjlbobcmaaDoor.Ar
/- Package arena: what each function answers, and what becomes of the arena. -/

namespace Go.Proofs.YtdnilnjlbobcmaaDoor.Ar
open Go.RowKit
/-- An access, as it went. -/
structure Acc where
  kind : Int
  at_ : Int
  old : Int
  new : Int
  ok : Bool
/-- What an arena holds: its words, how many accesses there were, the last one. -/
structure St where
  l : List Int
  n : Int
  a : Acc
def inc (n : Int) : Int := wrap64 (n + 1)
def isAt (l : List Int) (i : Int) : Bool := decide (0 ≤ i) && decide (i < l.length)
def nth (l : List Int) (k : Nat) : Int := l.getD k 0
def peek (l : List Int) (i : Int) : Int := if isAt l i = true then nth l i.toNat else 0
def poke (l : List Int) (i v : Int) : List Int := if isAt l i = true then l.set i.toNat v else l
theorem isAt_in {l : List Int} {k : Nat} (h : k < l.length) : isAt l k = true := by simp [isAt]; omega
theorem isAt_cases (l : List Int) (i : Int) : (∃ k : Nat, i = k ∧ k < l.length ∧ isAt l i = true) ∨ ((i < 0 ∨ l.length ≤ i) ∧ isAt l i = false) := by
  by_cases h : 0 ≤ i ∧ i < l.length
  · obtain ⟨k, rfl⟩ := Int.eq_ofNat_of_zero_le h.1
    exact .inl ⟨k, rfl, by omega, isAt_in (by omega)⟩
  · refine .inr ⟨by omega, ?_⟩
    simp only [isAt, Bool.and_eq_false_iff, decide_eq_false_iff_not]
    omega
theorem peek_at {l : List Int} {k : Nat} (h : k < l.length) : peek l k = nth l k := by rw [peek, if_pos (isAt_in h)]; rfl
theorem peek_no {l : List Int} {i : Int} (h : isAt l i = false) : peek l i = 0 := by rw [peek, if_neg (by simp [h])]
theorem poke_at {l : List Int} {k : Nat} (v : Int) (h : k < l.length) : poke l k v = l.set k v := by rw [poke, if_pos (isAt_in h)]; rfl
theorem poke_no {l : List Int} {i : Int} (v : Int) (h : isAt l i = false) : poke l i v = l := by rw [poke, if_neg (by simp [h])]
theorem length_poke (l : List Int) (i v : Int) : (poke l i v).length = l.length := by unfold poke; split <;> simp
theorem nth_poke {l : List Int} {k : Nat} (v : Int) (h : k < l.length) (i : Nat) : nth (poke l k v) i = if i = k then v else nth l i := by
  rw [poke_at v h, nth, nth, List.getD_eq_getElem?_getD, List.getElem?_set]
  by_cases e : k = i
  · subst e; simp [h]
  · rw [if_neg e, if_neg (Ne.symm e), List.getD_eq_getElem?_getD]
theorem isAt_poke (l : List Int) (i v j : Int) : isAt (poke l i v) j = isAt l j := by simp [isAt, length_poke]
def St.note (s : St) (kind i was : Int) (ok : Bool) : St := ⟨s.l, inc s.n, ⟨kind, i, was, peek s.l i, ok⟩⟩
def St.poke (s : St) (i v : Int) : St := ⟨Ar.poke s.l i v, s.n, s.a⟩
def St.load (s : St) (i : Int) : St := s.note 1 i (peek s.l i) false
def St.store (s : St) (i v : Int) : St := (s.poke i v).note 2 i (peek s.l i) false
def St.can (s : St) (i old : Int) : Bool := isAt s.l i && (peek s.l i == old)
def St.swap (s : St) (i old v : Int) : St := if s.can i old = true then (s.poke i v).note 3 i (peek s.l i) true else s.note 3 i (peek s.l i) false
def St.add (s : St) (i v : Int) : St := (s.poke i (wrap64 (peek s.l i + v))).note 4 i (peek s.l i) false
def arHead (s : St) (q cap : Nat) : Array Value :=
  #[.int .i64 s.l.length, .slice (some ⟨q, 0, none⟩) ((s.l.length + 63) / 64) cap, .int .i64 s.n, .int .i64 s.a.kind, .int .i64 s.a.at_, .int .i64 s.a.old, .int .i64 s.a.new, .bool s.a.ok]
theorem one_set {c : Array Value} {i n : Nat} {v : Value} (h : ∀ u ∈ c.toList.take n, u.oneCell' = true) (hv : v.oneCell' = true) : ∀ u ∈ (c.setIfInBounds i v).toList.take n, u.oneCell' = true := by
  intro u hu
  rw [Array.toList_setIfInBounds, List.take_set] at hu
  rcases List.mem_or_eq_of_mem_set hu with h1 | rfl
  · exact h u h1
  · exact hv
theorem ret_int {k : IntKind} {a b : Int} {w : World} (h : a = b) : Ending.returned (.int k a) = .returned (.int k b) ∧ w = w := ⟨by rw [h], rfl⟩
def Acc.val (a : Acc) : Value := .agg #[.int .i64 a.kind, .int .i64 a.at_, .int .i64 a.old, .int .i64 a.new, .bool a.ok]
def St.fresh (n : Nat) : St := ⟨List.replicate n 0, 0, ⟨0, 0, 0, 0, false⟩⟩
def page0 : Value := .agg (Array.replicate 64 (.int .i64 0))
theorem page0_cells (n : Nat) : ∀ j, j < n → (madeCells page0.cells n).toList[j]? = some (.int .i64 0) := by
  intro j hj
  have h : j % 64 < 64 := Nat.mod_lt _ (by decide)
  simp [madeCells, page0, Value.cells, hj]
  rw [getElem!_pos _ _ (by simpa using h)]
  simp
theorem page_one (n : Nat) : ∀ u ∈ (madeCells page0.cells n).toList, u.oneCell' = true := by
  intro u hu
  obtain ⟨j, hj, rfl⟩ := List.getElem_of_mem hu
  have h := page0_cells n j (by simpa [madeCells] using hj)
  rw [List.getElem?_eq_getElem hj] at h
  rw [Option.some.inj h]; rfl
def wordsOf (n : Int) : Nat := (max 1 (min n 20000)).toNat
theorem own_lt {w1 : World} {b : Nat} {E : TypeId} {sz g n cap k : Nat} {xs : List Value} (h : w1.ownsRow b E sz (.slice (some ⟨g, 0, none⟩) n cap) k xs) : g < w1.heap.size := by
  rcases h.2 with ⟨h, _⟩ | ⟨g, _, _, hv, _, hh, _⟩
  · cases h
  · cases hv; exact (Array.getElem?_eq_some_iff.1 hh).1
theorem wordsOf_bd (i : Int) : 1 ≤ wordsOf i ∧ wordsOf i ≤ 20000 := by unfold wordsOf; omega
end Go.Proofs.YtdnilnjlbobcmaaDoor.Ar
/- Package armillaryref1's arena: what each function answers, and what becomes of it: the same as package arena's. -/

namespace Go.Proofs.YtdnilnjlbobcmaaDoor.Ref
open Go.RowKit Go.Proofs.YtdnilnjlbobcmaaDoor.Ar
def rarHead (s : St) (q cap : Nat) : Array Value :=
  #[.slice (some ⟨q, 0, none⟩) s.l.length cap, .int .i64 s.n, .int .i64 s.a.kind, .int .i64 s.a.at_, .int .i64 s.a.old, .int .i64 s.a.new, .bool s.a.ok]
theorem intInfo : (Tryd.prog.info? 3).map (fun i => (i.zero, i.size, i.bytes)) = some (some (.int .i64 0), 1, 8) := by kernel_rfl
theorem held_any (n : Nat) (i : Int) (hn : (i < 1 ∧ n = 1) ∨ (1 ≤ i ∧ i ≤ 20000 ∧ i = n) ∨ (20000 < i ∧ n = 20000)) (w : World) :
    Calls Tryd.prog 45 #[.int .i64 i, .int .i64 1, .int .i64 20000] w fun e w' => e = .returned (.int .i64 n) ∧ w = w' := by
  rcases hn with ⟨h1, rfl⟩ | ⟨h1, h2, rfl⟩ | ⟨h1, rfl⟩
  all_goals
    go_enter Tryd.func45, Tryd.ntmps45
    go_wp2
    all_goals go_ret
    all_goals (first | exact ⟨rfl, rfl⟩ | exact ret_int (by omega))
end Go.Proofs.YtdnilnjlbobcmaaDoor.Ref
/- The reference's words and places: what each function answers. -/

namespace Go.Proofs.YtdnilnjlbobcmaaDoor.Mx
open Go.RowKit Go.Proofs.YtdnilnjlbobcmaaDoor.Ar Go.Proofs.YtdnilnjlbobcmaaDoor.Ref
set_option linter.unusedVariables false
set_option linter.unusedSimpArgs false
def hd (n a b : Int) : Int := max a (min n b)
theorem hd_bd (n : Int) {a b : Int} (h : a ≤ b) : a ≤ hd n a b ∧ hd n a b ≤ b := by unfold hd; omega
theorem hd_in {n a b : Int} (h1 : a ≤ n) (h2 : n ≤ b) : hd n a b = n := by unfold hd; omega
theorem w64 {a : Int} (h0 : -9223372036854775808 ≤ a) (h1 : a ≤ 9223372036854775807) : wrap64 a = a := IntWalk.wrap64_in a ⟨h0, h1⟩
theorem or_u64 (a b : Int) (i : Nat) (hi : i ≤ 24) (h0 : 0 ≤ a) (h1 : a ≤ 1073741824) (h2 : 0 ≤ b) (h3 : b < 2 ^ i) : wrap64 (bits .or .u64 (a * 2 ^ i) b) = a * 2 ^ i + b := by
  obtain ⟨x, rfl⟩ := Int.eq_ofNat_of_zero_le h0
  obtain ⟨y, rfl⟩ := Int.eq_ofNat_of_zero_le h2
  have hp : 2 ^ i ≤ 2 ^ 24 := Nat.pow_le_pow_right (by decide) hi
  have hy : y < 2 ^ i := by
    have : ((2 ^ i : Nat) : Int) = (2 : Int) ^ i := by simp
    omega
  have hx : x * 2 ^ i ≤ 1073741824 * 2 ^ 24 := Nat.mul_le_mul (by omega) hp
  have e : ((x : Int) * 2 ^ i) = ((x * 2 ^ i : Nat) : Int) := by simp
  rw [e, u64_or_nat _ _ (by omega) (by omega), nat_join i _ _ (Nat.mul_mod_left _ _) hy, IntWalk.wrap64_in _ ⟨by omega, by omega⟩]
  omega
/-- A word as its 64 bits. -/
def un (a : Int) : Int := a % 18446744073709551616
theorem un_in {a : Int} (h0 : 0 ≤ a) (h1 : a ≤ 9223372036854775807) : un a = a := by unfold un; omega
theorem wrap_un (a : Int) : IntKind.u64.wrap a = un a := IntKind.wrap_u64 a
theorem un_bd (a : Int) : 0 ≤ un a ∧ un a < 18446744073709551616 := by unfold un; omega
theorem low_u64 (a : Int) (i m : Nat) (hm : m + 1 = 2 ^ i) (hi : i ≤ 24) : wrap64 (bits .and .u64 (IntKind.u64.wrap a) (m : Int)) = a % ((m + 1 : Nat) : Int) := by
  have hb := un_bd a
  rw [wrap_un]
  obtain ⟨x, hx⟩ := Int.eq_ofNat_of_zero_le hb.1
  have hp : 2 ^ i ≤ 2 ^ 24 := Nat.pow_le_pow_right (by decide) hi
  have hpos : 0 < 2 ^ i := Nat.two_pow_pos i
  have hlt : x % 2 ^ i < 2 ^ i := Nat.mod_lt _ hpos
  rw [hx, u64_and_nat _ _ (by omega) (by omega), show m = 2 ^ i - 1 by omega, Nat.and_two_pow_sub_one_eq_mod, IntWalk.wrap64_in _ ⟨by omega, by omega⟩, show 2 ^ i - 1 + 1 = 2 ^ i by omega, Int.natCast_emod, ← hx]
  unfold un
  refine Int.emod_emod_of_dvd _ ?_
  have : (18446744073709551616 : Nat) = 2 ^ i * 2 ^ (64 - i) := by rw [← Nat.pow_add, show i + (64 - i) = 64 by omega]
  exact ⟨((2 ^ (64 - i) : Nat) : Int), by rw [← Int.natCast_mul, ← this]; rfl⟩
theorem bv_u (a : Int) : BitVec.ofInt 64 (IntKind.u64.wrap a) = BitVec.ofInt 64 a := by
  rw [wrap_un]; unfold un
  apply BitVec.eq_of_toNat_eq
  rw [BitVec.toNat_ofInt, BitVec.toNat_ofInt]
  have : a % 18446744073709551616 % ((2 ^ 64 : Nat) : Int) = a % ((2 ^ 64 : Nat) : Int) := by
    rw [show ((2 ^ 64 : Nat) : Int) = 18446744073709551616 by decide]; omega
  rw [this]
theorem i64_wrap64 (n : Int) : IntKind.i64.wrap n = wrap64 n := by unfold wrap64; rw [IntKind.wrap_i64]
theorem and_i64 (a b : Int) : bits .and .i64 a b = wrap64 (bits .and .u64 (IntKind.u64.wrap a) b) := by
  show IntKind.i64.wrap ((BitVec.ofInt 64 a &&& BitVec.ofInt 64 b).toNat : Int) = wrap64 (IntKind.u64.wrap ((BitVec.ofInt 64 (IntKind.u64.wrap a) &&& BitVec.ofInt 64 b).toNat : Int))
  rw [bv_u]
  have h := (BitVec.ofInt 64 a &&& BitVec.ofInt 64 b).isLt
  generalize (BitVec.ofInt 64 a &&& BitVec.ofInt 64 b).toNat = n at *
  rw [IntKind.wrap_u64, show (n : Int) % 18446744073709551616 = n by omega]
  exact i64_wrap64 n
theorem or_i64 (a b : Int) : bits .or .i64 a b = wrap64 (bits .or .u64 a b) := by
  show IntKind.i64.wrap ((BitVec.ofInt 64 a ||| BitVec.ofInt 64 b).toNat : Int) = wrap64 (IntKind.u64.wrap ((BitVec.ofInt 64 a ||| BitVec.ofInt 64 b).toNat : Int))
  have h := (BitVec.ofInt 64 a ||| BitVec.ofInt 64 b).isLt
  generalize (BitVec.ofInt 64 a ||| BitVec.ofInt 64 b).toNat = n at *
  rw [IntKind.wrap_u64, show (n : Int) % 18446744073709551616 = n by omega]
  exact i64_wrap64 n
theorem low_i64 (a : Int) (i m : Nat) (hm : m + 1 = 2 ^ i) (hi : i ≤ 24) : bits .and .i64 a (m : Int) = a % ((m + 1 : Nat) : Int) := by rw [and_i64, low_u64 a i m hm hi]
theorem join_i64 (a b : Int) (i : Nat) (hi : i ≤ 24) (h0 : 0 ≤ a) (h1 : a ≤ 1073741824) (h2 : 0 ≤ b) (h3 : b < 2 ^ i) : bits .or .i64 (a * 2 ^ i) b = a * 2 ^ i + b := by rw [or_i64, or_u64 a b i hi h0 h1 h2 h3]
theorem ret_i {a b : Int} {w : World} (h : a = b) : Ending.returned (.int .i64 a) = .returned (.int .i64 b) ∧ w = w := ⟨by rw [h], rfl⟩
theorem ret_b {a b : Bool} {w : World} (h : a = b) : Ending.returned (.bool a) = .returned (.bool b) ∧ w = w := ⟨by rw [h], rfl⟩
theorem held_any (n a b : Int) (w : World) : Calls Tryd.prog 45 #[.int .i64 n, .int .i64 a, .int .i64 b] w fun e w' => e = .returned (.int .i64 (hd n a b)) ∧ w = w' := by
  generalize hm : hd n a b = m
  have hm' := Lib.hid hm
  clear hm
  go_enter Tryd.func45, Tryd.ntmps45
  go_wp2
  all_goals go_ret
  all_goals exact ret_i (by rw [← hm'.out]; unfold hd; (repeat' split at *) <;> omega)
def nextW (a : Int) (m : Bool) : Int := hd a 0 1073741824 * 2 + (if m then 1 else 0)
def atW (a : Int) : Int := a / 2
def markW (a : Int) : Bool := decide (a % 2 = 1)
def stateW (v : Int) : Int := hd v 0 16777212 + 3
def verW (s : Int) : Int := if s < 3 then -1 else wrap64 (s - 3)
def claimW (s p : Int) : Int := hd s 0 1073741824 * 16777216 + hd p 0 16777212
def seqW (a : Int) : Int := a / 16777216
def partW (a : Int) : Int := a % 16777216
def dataW (d v : Int) : Int := hd d 0 1048576 * 2097152 + (hd v (-1) 1048576 + 1)
def whoW (a : Int) : Int := a / 2097152
def valW (a : Int) : Int := a % 2097152 - 1
theorem next_any (a : Int) (m : Bool) (w : World) : Calls Tryd.prog 34 #[.int .i64 a, .bool m] w fun e w' => e = .returned (.int .i64 (nextW a m)) ∧ w = w' := by
  have hb := hd_bd a (show (0 : Int) ≤ 1073741824 by decide)
  have hw : wrap64 (hd a 0 1073741824 * 2) = hd a 0 1073741824 * 2 := w64 (by omega) (by omega)
  have hj := join_i64 (hd a 0 1073741824) 1 1 (by decide) hb.1 hb.2 (by decide) (by decide)
  simp only [Int.pow_one, Int.reducePow] at hj
  cases m
  · go_enter Tryd.func34, Tryd.ntmps34
    go_wp2_with (go_at_call 45; refine (held_any _ _ _ _).mono ?_; rintro e _ ⟨rfl, rfl⟩)
    go_ret
    exact ret_i (by unfold nextW; simp [hw])
  · go_enter Tryd.func34, Tryd.ntmps34
    go_wp2_with (go_at_call 45; refine (held_any _ _ _ _).mono ?_; rintro e _ ⟨rfl, rfl⟩)
    go_ret
    exact ret_i (by unfold nextW; simp [hw, hj])
theorem at_any (a : Int) (w : World) : Calls Tryd.prog 23 #[.int .i64 a] w fun e w' => e = .returned (.int .i64 (atW a)) ∧ w = w' := by
  go_enter Tryd.func23, Tryd.ntmps23
  go_wp2
  go_ret
  exact ret_i rfl
theorem marked_any (a : Int) (w : World) : Calls Tryd.prog 24 #[.int .i64 a] w fun e w' => e = .returned (.bool (markW a)) ∧ w = w' := by
  go_enter Tryd.func24, Tryd.ntmps24
  go_wp2
  go_ret
  exact ret_b (by unfold markW; rw [show bits .and .i64 a 1 = a % 2 from low_i64 a 1 1 (by decide) (by decide), Bool.eq_iff_iff]; simp)
theorem state_any (v : Int) (w : World) : Calls Tryd.prog 35 #[.int .i64 v] w fun e w' => e = .returned (.int .i64 (stateW v)) ∧ w = w' := by
  go_enter Tryd.func35, Tryd.ntmps35
  go_wp2_with (go_at_call 45; refine (held_any _ _ _ _).mono ?_; rintro e _ ⟨rfl, rfl⟩)
  go_ret
  exact ret_i (by unfold stateW; have hb := hd_bd v (show (0 : Int) ≤ 16777212 by decide); first | rfl | (rw [w64 (by omega) (by omega)]))
theorem ver_any (s : Int) (w : World) : Calls Tryd.prog 36 #[.int .i64 s] w fun e w' => e = .returned (.int .i64 (verW s)) ∧ w = w' := by
  by_cases c : s < 3
  all_goals
    go_enter Tryd.func36, Tryd.ntmps36
    go_wp2
    go_ret
    exact ret_i (by unfold verW; first | rw [if_pos (by omega)] | rw [if_neg (by omega)])
end Go.Proofs.YtdnilnjlbobcmaaDoor.Mx
/- Objects that a call of ours made: what their cells hold, behind stores, calls, new blocks. -/

namespace Go.Proofs.YtdnilnjlbobcmaaDoor.Mx
open Go.RowKit Go.Proofs.YtdnilnjlbobcmaaDoor.Ar Go.Proofs.YtdnilnjlbobcmaaDoor.Ref
set_option linter.unusedVariables false
/-- Block b holds just these cells. -/
def Ob (w : World) (b : Nat) (T : TypeId) (cs : Array Value) : Prop := w.heap[b]? = some (.cells cs T (0, 0))
theorem Ob.lt {w : World} {b : Nat} {T : TypeId} {cs : Array Value} (h : Ob w b T cs) : b < w.heap.size := (Array.getElem?_eq_some_iff.1 h).1
theorem Ob.kept {S : List Nat} {w w' : World} {b : Nat} {T : TypeId} {cs : Array Value} (h : Ob w b T cs) (f : Fr S w w') (hb : b ∉ S) : Ob w' b T cs := f.heap h hb
theorem Ob.up {w w' : World} {b : Nat} {T : TypeId} {cs : Array Value} (h : Ob w b T cs) (f : Fr [] w w') : Ob w' b T cs := f.heap h (by simp)
theorem Ob.set {w : World} {b i : Nat} {T : TypeId} {cs : Array Value} (h : Ob w b T cs) (v : Value) : Ob (w.setCell ⟨b, i, none⟩ v) b T (cs.setIfInBounds i v) := heap_setCell_same _ b i _ _ v h
theorem Ob.other {w : World} {b b' i : Nat} {T : TypeId} {cs : Array Value} (h : Ob w b T cs) (hb : b ≠ b') (v : Value) : Ob (w.setCell ⟨b', i, none⟩ v) b T cs := by
  unfold Ob; rw [heap_setCell_other _ _ _ _ hb]; exact h
theorem Ob.new (w : World) (T : TypeId) (cs : Array Value) : Ob (w.alloc (.cells cs T (0, 0))) w.heap.size T cs := Go.heap_alloc_new w _
theorem sizeA (w : World) (o : Obj) : (w.alloc o).heap.size = w.heap.size + 1 := by unfold World.alloc; simp
theorem Ob.newAt {w : World} {n : Nat} (hs : w.heap.size = n) (T : TypeId) (cs : Array Value) : Ob (w.alloc (.cells cs T (0, 0))) n T cs := by subst hs; exact Ob.new w T cs
theorem Ob.alloc {w : World} {b : Nat} {T : TypeId} {cs : Array Value} (h : Ob w b T cs) (o : Obj) : Ob (w.alloc o) b T cs := h.up ((Fr.refl [] w).alloc o)
theorem Ob.cell {w : World} {b : Nat} {T : TypeId} {cs : Array Value} (h : Ob w b T cs) {i : Nat} {v : Value} (hv : cs[i]? = some v) : w.cell? ⟨b, i, none⟩ = some v := by
  rw [cell_of_row _ _ _ _ _ _ h]; exact hv
theorem Ob.frozen {w : World} {b : Nat} {T : TypeId} {cs : Array Value} (h : Ob w b T cs) (i : Nat) : w.frozen? ⟨b, i, none⟩ = false := frozen_of_row _ _ _ _ _ h
theorem Ob.ne {w : World} {b b' : Nat} {T T' : TypeId} {cs cs' : Array Value} (h : Ob w b T cs) (k : Ob w b' T' cs') (hT : T ≠ T') : b ≠ b' := by
  rintro rfl
  unfold Ob at h k
  rw [h] at k
  simp only [Option.some.injEq, Obj.cells.injEq] at k
  exact hT k.2.1
theorem Fr.set1 {S : List Nat} {w w' : World} (h : Fr S w w') {b i : Nat} (v : Value) (hb : b ∈ S) : Fr S w (w'.setCell ⟨b, i, none⟩ v) := h.setCell' v hb
theorem frSub {S T : List Nat} {w w' w'' : World} (h : Fr S w w') (k : Fr T w' w'') (hT : ∀ i, i ∈ T → i ∈ S) : Fr S w w'' := h.trans (k.mono hT)
/-- A configuration, as a value and as cells. -/
structure Cf where
  t : Int
  c : Int
  wd : Int
  v : Int
def Cf.val (c : Cf) : Value := .agg #[.int .i64 c.t, .int .i64 c.c, .int .i64 c.wd, .int .i64 c.v]
structure Cf.Ok (c : Cf) : Prop where
  t1 : 1 ≤ c.t
  t8 : c.t ≤ 8
  c2 : c.t + 2 ≤ c.c
  c16 : c.c ≤ 16
  w1 : 1 ≤ c.wd
  w2 : c.wd ≤ 20000
  v1 : 1 ≤ c.v
  v2 : c.v ≤ 1048576
  top : 21 + c.t + 3 * c.c ≤ c.wd
def sizeP (c : Cf) : Int := 7 + 3 * c.c
def psaP (t : Int) : Int := 3 + t
def hintP (c : Cf) (k : Int) : Int := 3 + c.t + k / 16
def headP (c : Cf) : Int := 7 + c.t
def firstP (c : Cf) : Int := 14 + c.t
def topP (c : Cf) : Int := 21 + c.t + 3 * c.c
def stAt (a i : Int) : Int := wrap64 (a + 7 + 3 * i)
theorem w64w (a b : Int) : wrap64 (wrap64 a + wrap64 b) = wrap64 (a + b) := by unfold wrap64; omega
theorem w64l (a b : Int) : wrap64 (wrap64 a + b) = wrap64 (a + b) := by unfold wrap64; omega
theorem w64r (a b : Int) : wrap64 (a + wrap64 b) = wrap64 (a + b) := by unfold wrap64; omega
theorem w64i (a : Int) : wrap64 (wrap64 a) = wrap64 a := by unfold wrap64; omega
end Go.Proofs.YtdnilnjlbobcmaaDoor.Mx
/- Slices that a call made itself: what they hold, what else is kept while they grow. -/

namespace Go.Proofs.YtdnilnjlbobcmaaDoor.Ar
open Go.RowKit
section
variable {w w' : World} {B : Nat} {E : TypeId} {sz n : Nat} {v : Value} {xs : List Value} {S : List Nat}
theorem row_fr (h : w.ownsRow B E sz v n xs) (f : Fr S w w') (hS : ∀ g, v.ownBlock = some g → g ∉ S) : w'.ownsRow B E sz v n xs := by
  obtain ⟨h1, h2⟩ := h
  refine ⟨h1, h2.imp id ?_⟩
  rintro ⟨g, cap, cur, rfl, hb, hh, r⟩
  exact ⟨g, cap, cur, rfl, hb, f.heap hh (hS g rfl), r⟩
theorem row_keeps (h : w.ownsRow B E sz v n xs) (f : Fr [] w w') : w'.ownsRow B E sz v n xs := row_fr h f (by simp)
theorem fr_grown (h : w.grownBy w' v.ownBlock) : Fr v.ownBlock.toList w w' :=
  ⟨h.os, h.tape, h.output, h.size, fun k hk hn => h.block k hk (fun e => hn (by rw [← e]; simp))⟩
theorem row_ne (h : w.ownsRow B E sz v n xs) {b : Nat} {cs : Array Value} {T : TypeId} {fr : Nat × Nat} (hb : w.heap[b]? = some (.cells cs T fr)) (hT : E ≠ T) : b ∉ v.ownBlock.toList := by
  rcases h.2 with ⟨rfl, _⟩ | ⟨g, cap, cur, rfl, _, hh, _⟩
  · simp [Value.ownBlock]
  · simp only [Value.ownBlock, Option.toList_some, List.mem_singleton]
    rintro rfl
    rw [hh] at hb
    simp only [Option.some.injEq, Obj.cells.injEq] at hb
    exact hT hb.2.1
theorem row_ne_map (h : w.ownsRow B E sz v n xs) {b : Nat} {es : Array MapEntry} {k : Nat} (hb : w.heap[b]? = some (.map es k)) : b ∉ v.ownBlock.toList := by
  rcases h.2 with ⟨rfl, _⟩ | ⟨g, cap, cur, rfl, _, hh, _⟩
  · simp [Value.ownBlock]
  · simp only [Value.ownBlock, Option.toList_some, List.mem_singleton]
    rintro rfl
    rw [hh] at hb
    cases hb
theorem row_base (h : w.ownsRow B E sz v n xs) : ∀ g, g ∈ v.ownBlock.toList → B ≤ g := by
  intro g hg
  exact (h.lt g (by simpa using hg)).1
theorem row_more {C : Nat} (h : w.ownsRow B E sz v n xs) (hC : C ≤ B) : w.ownsRow C E sz v n xs := by
  obtain ⟨h1, h2⟩ := h
  refine ⟨h1, h2.imp id ?_⟩
  rintro ⟨g, cap, cur, rfl, hb, r⟩
  exact ⟨g, cap, cur, rfl, Nat.le_trans hC hb, r⟩
end
/-- 'append(s, a, b, ..)': what is appended lies in a block of its own. -/
theorem wpList_app {P : Program} {w : World} {ops : Array Oper} {rest : List Oper} {o : Oper} {a : Act} {Q : Exit → Act → World → Prop} (hgd : o.guard = none) (s x : Operand) (t : TypeId)
    (ho : o.op = .call { callee := .builtin .append, args := #[s, x], argTypes := #[t, t] })
    {B : Nat} {E : TypeId} {z : Value} {size bytes : Nat} (ht : P.underlying t = some (.slice E)) (hi : (P.info? E).map (fun i => (i.zero, i.size, i.bytes)) = some (some z, size, bytes))
    (hzs : z.cells.size = size) (hsz : 0 < size)
    (v : Value) (n : Nat) (xs : List Value) (hs : a.eval s = v) (hown : w.ownsRow B E size v n xs)
    {b m c : Nat} {cs : Array Value} {T : TypeId} (hx : a.eval x = .slice (some ⟨b, 0, none⟩) m c) (hb : w.heap[b]? = some (.cells cs T (0, 0))) (hl : cs.size = m * size) (h1 : ∀ u ∈ cs.toList, u.oneCell' = true)
    (h63 : n + m ≤ maxLen) (hbytes : (n + m) * bytes ≤ 140737488355328) (hbase : B ≤ w.heap.size)
    (h : ∀ v' w', w'.ownsRow B E size v' (n + m) (xs ++ cs.toList) → Fr v.ownBlock.toList w w' → wpList P ops Q rest (a.put o.dst v') w') : wpList P ops Q (o :: rest) a w := by
  obtain ⟨i, hi0, hz, hs0, hb0⟩ := info_parts hi
  exact wpList_append_own_at w hgd s x t ho B E i z size bytes ht hi0 hz hs0 hb0 hzs hsz v n xs hs hown ⟨b, 0, none⟩ m c cs.toList hx (by simpa using hl) (World.news_of_block hb) h1 h63 hbytes hbase
    fun v' w' h2 h3 _ _ => h v' w' h2 (fr_grown h3)
theorem one_ints (k : IntKind) (zs : List Int) : ∀ u ∈ (zs.map (Value.int k)).toArray.toList, u.oneCell' = true := by simpa using ints_oneCell k zs

/-- What lies in a row of one's own, cell by cell. -/
theorem row_cell {w : World} {B : Nat} {E : TypeId} {sz n : Nat} {v : Value} {xs : List Value} (h : w.ownsRow B E sz v n xs) :
    ∃ a cap, v = .slice a n cap ∧ n ≤ maxLen ∧ (n = 0 ∨ ∃ g, a = some ⟨g, 0, none⟩ ∧ g < w.heap.size ∧ ∀ j x, xs[j]? = some x → w.cell? ⟨g, j, none⟩ = some x) := by
  obtain ⟨h1, h2⟩ := h
  rcases h2 with ⟨rfl, rfl⟩ | ⟨g, cap, cur, rfl, -, hh, hc1, hc2, hs, ht⟩
  · exact ⟨none, 0, rfl, by simp [maxLen], .inl rfl⟩
  · refine ⟨_, _, rfl, by omega, .inr ⟨g, rfl, (Array.getElem?_eq_some_iff.1 hh).1, fun j x hx => ?_⟩⟩
    rw [cell_of_row _ _ _ _ _ _ hh]
    have hj : j < n * sz := by rw [← h1]; exact (List.getElem?_eq_some_iff.1 hx).1
    rw [← ht, List.getElem?_take_of_lt hj] at hx
    simpa using hx
end Go.Proofs.YtdnilnjlbobcmaaDoor.Ar
/- Rows of whatever (numbers, items, pointers): what a slice holds, parts of it, appends to rows of the call's own. -/

namespace Go.Proofs.YtdnilnjlbobcmaaDoor.Mx
open Go.RowKit Go.Proofs.YtdnilnjlbobcmaaDoor.Ar
set_option linter.unusedVariables false
set_option linter.unusedSimpArgs false
section
variable {α : Type} {f : α → List Value} {sz : Nat}
/-- Each lies in as many cells. -/
structure Lays (f : α → List Value) (sz : Nat) : Prop where
  len : ∀ x, (f x).length = sz
  one : ∀ x, ∀ u ∈ f x, u.oneCell' = true
  pos : 0 < sz
theorem Lays.flat (h : Lays f sz) (xs : List α) : (xs.flatMap f).length = xs.length * sz := by
  induction xs with
  | nil => simp
  | cons x xs ih => rw [List.flatMap_cons, List.length_append, ih, h.len, List.length_cons, Nat.succ_mul]; omega
theorem Lays.ones (h : Lays f sz) (xs : List α) : ∀ u ∈ xs.flatMap f, u.oneCell' = true := by
  intro u hu
  obtain ⟨x, -, hx⟩ := List.mem_flatMap.1 hu
  exact h.one x u hx
theorem Lays.parts (h : Lays f sz) (xs : List α) (k : Nat) (hk : k ≤ xs.length) : (xs.take k).flatMap f ++ (xs.drop k).flatMap f = xs.flatMap f ∧ ((xs.take k).flatMap f).length = k * sz :=
  ⟨by rw [← List.flatMap_append, List.take_append_drop], by rw [h.flat, List.length_take, Nat.min_eq_left hk]⟩
theorem Lays.take (h : Lays f sz) (xs : List α) (k : Nat) (hk : k ≤ xs.length) : (xs.take k).flatMap f = (xs.flatMap f).take (k * sz) := by
  obtain ⟨e, l⟩ := h.parts xs k hk
  rw [← e]; exact (List.take_left' l).symm
theorem Lays.drop (h : Lays f sz) (xs : List α) (k : Nat) (hk : k ≤ xs.length) : (xs.drop k).flatMap f = (xs.flatMap f).drop (k * sz) := by
  obtain ⟨e, l⟩ := h.parts xs k hk
  rw [← e]; exact (List.drop_left' l).symm
theorem Lays.at (h : Lays f sz) {xs : List α} {i j : Nat} {x : α} (hi : xs[i]? = some x) (hj : j < sz) : (xs.flatMap f)[i * sz + j]? = (f x)[j]? := by
  induction xs generalizing i with
  | nil => simp at hi
  | cons y xs ih =>
    rw [List.flatMap_cons]
    cases i with
    | zero =>
      simp at hi; subst hi
      rw [Nat.zero_mul, Nat.zero_add, List.getElem?_append_left (by rw [h.len]; exact hj)]
    | succ i =>
      rw [List.getElem?_append_right (by rw [h.len, Nat.succ_mul]; omega), h.len, Nat.succ_mul, show i * sz + sz + j - sz = i * sz + j by omega]
      exact ih (by simpa using hi)
/-- A slice that holds these. -/
def Sq (f : α → List Value) (w : World) (v : Value) (xs : List α) : Prop := ∃ a cap, v = .slice a xs.length cap ∧ xs.length ≤ cap ∧ cap ≤ maxLen ∧
  (xs.length = 0 ∨ ∃ g off, a = some ⟨g, off, none⟩ ∧ g < w.heap.size ∧ ∀ j u, (xs.flatMap f)[j]? = some u → w.cell? ⟨g, off + j, none⟩ = some u)
theorem Sq.kept {S : List Nat} {w w' : World} {v : Value} {xs : List α} (h : Sq f w v xs) (k : Fr S w w') (hS : ∀ g, g ∈ v.ownBlock.toList → g ∉ S) : Sq f w' v xs := by
  obtain ⟨a, cap, rfl, h1, h2, h3⟩ := h
  refine ⟨a, cap, rfl, h1, h2, h3.imp id ?_⟩
  rintro ⟨g, off, rfl, hg, hc⟩
  exact ⟨g, off, rfl, Nat.lt_of_lt_of_le hg k.size, fun j u hu => k.cell (hc j u hu) (hS g (by simp [Value.ownBlock]))⟩
theorem Sq.up {w w' : World} {v : Value} {xs : List α} (h : Sq f w v xs) (k : Fr [] w w') : Sq f w' v xs := h.kept k (by simp)
theorem Sq.nil (w : World) : Sq f w (.slice none 0 0) [] := ⟨none, 0, rfl, Nat.le_refl _, by simp [maxLen], .inl rfl⟩
theorem Sq.own {w : World} {B : Nat} {E : TypeId} {v : Value} {xs : List α} (h : w.ownsRow B E sz v xs.length (xs.flatMap f)) : Sq f w v xs := by
  obtain ⟨h1, h2⟩ := h
  rcases h2 with ⟨rfl, e0⟩ | ⟨g, cap, cur, rfl, -, hh, hc1, hc2, hs, ht⟩
  · have h0 : xs.length = 0 := by first | exact e0 | omega
    exact ⟨none, 0, by rw [h0], by omega, by simp [maxLen], .inl h0⟩
  · refine ⟨_, cap, rfl, hc1, hc2, .inr ⟨g, 0, rfl, (Array.getElem?_eq_some_iff.1 hh).1, fun j u hu => ?_⟩⟩
    rw [Nat.zero_add, cell_of_row _ _ _ _ _ _ hh]
    have hj : j < xs.length * sz := by rw [← h1]; exact (List.getElem?_eq_some_iff.1 hu).1
    rw [← ht, List.getElem?_take_of_lt hj] at hu
    simpa using hu
/-- Some cells of one of them. -/
theorem Sq.cell (hL : Lays f sz) {w : World} {a : Option Addr} {n cap : Nat} {xs : List α} (h : Sq f w (.slice a n cap) xs) {i : Nat} {x : α} (hi : xs[i]? = some x) :
    n = xs.length ∧ ∃ g off, a = some ⟨g, off, none⟩ ∧ ∀ j u, (f x)[j]? = some u → w.cell? ⟨g, off + i * sz + j, none⟩ = some u := by
  obtain ⟨a', cap', e, h1, h2, h3⟩ := h
  simp only [Value.slice.injEq] at e
  obtain ⟨rfl, rfl, rfl⟩ := e
  refine ⟨rfl, ?_⟩
  have hlt := (List.getElem?_eq_some_iff.1 hi).1
  rcases h3 with h0 | ⟨g, off, rfl, -, hc⟩
  · omega
  · refine ⟨g, off, rfl, fun j u hu => ?_⟩
    have hj : j < sz := by have := (List.getElem?_eq_some_iff.1 hu).1; rw [hL.len] at this; exact this
    rw [Nat.add_assoc]
    exact hc _ _ ((hL.at hi hj).trans hu)
theorem Sq.take (hL : Lays f sz) {w : World} {a : Option Addr} {n cap : Nat} {xs : List α} (h : Sq f w (.slice a n cap) xs) (k : Nat) (hk : k ≤ xs.length) : Sq f w (.slice a k cap) (xs.take k) := by
  obtain ⟨a', cap', e, h1, h2, h3⟩ := h
  simp only [Value.slice.injEq] at e
  obtain ⟨rfl, rfl, rfl⟩ := e
  have hl : (xs.take k).length = k := by simp [Nat.min_eq_left hk]
  refine ⟨a, cap, by rw [hl], by omega, h2, ?_⟩
  rcases h3 with h0 | ⟨g, off, rfl, hg, hc⟩
  · exact .inl (by omega)
  · refine .inr ⟨g, off, rfl, hg, fun j u hu => hc j u ?_⟩
    rw [hL.take xs k hk] at hu
    have hj := (List.getElem?_eq_some_iff.1 hu).1
    rw [List.length_take] at hj
    rw [List.getElem?_take_of_lt (by omega)] at hu
    exact hu
theorem Sq.drop (hL : Lays f sz) {w : World} {g off n cap : Nat} {xs : List α} (h : Sq f w (.slice (some ⟨g, off, none⟩) n cap) xs) (k : Nat) (hk : k ≤ xs.length) : Sq f w (.slice (some ⟨g, off + k * sz, none⟩) (xs.length - k) (cap - k)) (xs.drop k) := by
  obtain ⟨a', cap', e, h1, h2, h3⟩ := h
  simp only [Value.slice.injEq] at e
  obtain ⟨rfl, rfl, rfl⟩ := e
  have hl : (xs.drop k).length = xs.length - k := by simp
  refine ⟨_, cap - k, by rw [hl], by omega, by omega, ?_⟩
  rcases h3 with h0 | ⟨g', off', e, hg, hc⟩
  · exact .inl (by omega)
  · simp only [Option.some.injEq, Addr.mk.injEq] at e
    obtain ⟨rfl, rfl, -⟩ := e
    refine .inr ⟨g, off + k * sz, rfl, hg, fun j u hu => ?_⟩
    rw [hL.drop xs k hk, List.getElem?_drop] at hu
    rw [Nat.add_assoc]
    exact hc _ _ hu
theorem Sq.block {w : World} {b n c : Nat} {cs : Array Value} {T : TypeId} {xs : List α} (h : w.heap[b]? = some (.cells cs T (0, 0))) (hx : xs.flatMap f = cs.toList) (hn : xs.length = n) (h1 : n ≤ c) (h2 : c ≤ maxLen) : Sq f w (.slice (some ⟨b, 0, none⟩) n c) xs := by
  subst hn
  refine ⟨_, c, rfl, h1, h2, .inr ⟨b, 0, rfl, (Array.getElem?_eq_some_iff.1 h).1, fun j u hu => ?_⟩⟩
  rw [cell_of_row _ _ _ _ _ _ h, Nat.zero_add]
  rw [hx] at hu
  simpa using hu
theorem Sq.empty (w : World) (a : Option Addr) {c : Nat} (h : c ≤ maxLen) : Sq f w (.slice a 0 c) [] := ⟨a, c, rfl, Nat.zero_le _, h, .inl rfl⟩
theorem addr_add (b o j : Nat) : (⟨b, o, none⟩ : Addr).add j = ⟨b, o + j, none⟩ := by
  unfold Addr.add; split
  · rename_i h; subst h; rfl
  · rfl
/-- 'append(s, x...)': s of the call's own, or none. -/
theorem wpList_appSq {P : Program} {w : World} {ops : Array Oper} {rest : List Oper} {o : Oper} {a : Act} {Q : Exit → Act → World → Prop} (hL : Lays f sz) (hgd : o.guard = none) (s x : Operand) (t : TypeId)
    (ho : o.op = .call { callee := .builtin .append, args := #[s, x], argTypes := #[t, t] }) {E : TypeId} {z : Value} {bytes : Nat} (ht : P.underlying t = some (.slice E)) (hi : (P.info? E).map (fun i => (i.zero, i.size, i.bytes)) = some (some z, sz, bytes)) (hzs : z.cells.size = sz)
    {B : Nat} (v : Value) (os : List α) (hs : a.eval s = v) (hown : w.ownsRow B E sz v os.length (os.flatMap f)) (xv : Value) (ps : List α) (hx : a.eval x = xv) (hp : Sq f w xv ps)
    (hl : os.length + ps.length ≤ 1000000) (hb : bytes ≤ 1000) (hbase : B ≤ w.heap.size)
    (h : ∀ a' c' w', w'.ownsRow B E sz (.slice a' (os ++ ps).length c') (os ++ ps).length ((os ++ ps).flatMap f) → Fr v.ownBlock.toList w w' → wpList P ops Q rest (a.put o.dst (.slice a' (os ++ ps).length c')) w') : wpList P ops Q (o :: rest) a w := by
  obtain ⟨ad, cap, rfl, hcap, hm, hc⟩ := hp
  obtain ⟨i, hi0, hz, hs0, hb0⟩ := info_parts hi
  have hbytes : (os.length + ps.length) * bytes ≤ 140737488355328 := Nat.le_trans (Nat.mul_le_mul hl hb) (by decide)
  have go : ∀ (ad : Addr), (∀ j u, (ps.flatMap f)[j]? = some u → w.cell? (ad.add j) = some u) → a.eval x = .slice (some ad) ps.length cap → wpList P ops Q (o :: rest) a w := by
    intro ad hcell hx
    refine wpList_append_own_at w hgd s x t ho B E i _ sz bytes ht hi0 hz hs0 hb0 hzs hL.pos v os.length _ hs hown ad ps.length cap (ps.flatMap f) hx (hL.flat ps) hcell (hL.ones ps) (by unfold maxLen; omega) hbytes hbase fun v' w' h2 h3 _ _ => ?_
    rw [← List.flatMap_append, ← List.length_append] at h2
    obtain ⟨a', c', rfl, -, -⟩ := row_cell h2
    exact h a' c' w' h2 (fr_grown h3)
  have hnil : ps.length = 0 → wpList P ops Q (o :: rest) a w := by
    intro h0
    obtain rfl : ps = [] := List.eq_nil_of_length_eq_zero h0
    cases ad with
    | some ad => exact go ad (fun j u hu => by simp at hu) hx
    | none =>
      have hown' := hown
      obtain ⟨hxl, hv⟩ := hown
      have hle : ∃ b0 c0, v = .slice b0 os.length c0 ∧ os.length ≤ c0 := by
        rcases hv with ⟨rfl, e0⟩ | ⟨g, c0, cur, rfl, -, -, h1, -⟩
        · have hx0 : os.length = 0 := by first | exact e0 | omega
          exact ⟨none, 0, by rw [hx0], by omega⟩
        · exact ⟨_, c0, rfl, by first | exact h1 | omega⟩
      obtain ⟨b0, c0, rfl, hle⟩ := hle
      refine wpList_plain hgd fun K hK => ?_
      have hr := run_append_nothing (P := P) w t t o.type E i ht hi0 b0 os.length c0 hle (.slice none 0 cap) (by rw [hs0]; exact Src.ofNil w ht cap)
      unfold Oper.wp execOp
      have hx' : a.eval x = .slice none 0 cap := hx
      simp only [ho, resolve, invoke, builtin, Sem.run_bind, Sem.run_pure, Result.andThen_ok, List.map_toArray, List.map_cons, List.map_nil, hs, hx', hr]
      have h' := h b0 c0 w
      rw [List.append_nil] at h'
      exact hK _ _ (h' hown' (Fr.refl _ _))
  rcases hc with h0 | ⟨g, off, rfl, -, hcell⟩
  · exact hnil h0
  · exact go ⟨g, off, none⟩ (fun j u hu => by rw [addr_add]; exact hcell j u hu) hx
end
end Go.Proofs.YtdnilnjlbobcmaaDoor.Mx
/- Items, as rows; the reference's order of them (Sort). -/

namespace Go.Proofs.YtdnilnjlbobcmaaDoor.Mx
open Go.RowKit Go.Proofs.YtdnilnjlbobcmaaDoor.Ar
set_option linter.unusedVariables false
set_option linter.unusedSimpArgs false
structure It where
  k : Int
  v : Int
  d : Int
deriving DecidableEq
def fT (x : It) : List Value := [.int .i64 x.k, .int .i64 x.v, .int .i64 x.d]
theorem fT_lays : Lays fT 3 := ⟨fun _ => rfl, fun x u hu => by simp [fT] at hu; rcases hu with rfl | rfl | rfl <;> rfl, by decide⟩
theorem itI : (Tryd.prog.info? 43).map (fun i => (i.zero, i.size, i.bytes)) = some (some (.agg #[.int .i64 0, .int .i64 0, .int .i64 0]), 3, 24) := by kernel_rfl
/-- Does x stand behind y? -/
def gtT (y x : It) : Bool := decide (y.k > x.k) || ((y.k == x.k) && decide (y.v > x.v))
/-- Where x is put in, looked for from k down. -/
def posT (out : List It) (x : It) : Nat → Nat
  | 0 => 0
  | k + 1 => if (out[k]?.any fun y => gtT y x) = true then posT out x k else k + 1
def insT (out : List It) (x : It) : List It := out.take (posT out x out.length) ++ [x] ++ out.drop (posT out x out.length)
def sortT (l : List It) : List It := l.foldl insT []
theorem posT_succ {out : List It} {x y : It} {j : Nat} (hy : out[j]? = some y) : posT out x (j + 1) = if gtT y x = true then posT out x j else j + 1 := by simp only [posT, hy, Option.any_some]
theorem posT_le (out : List It) (x : It) (k : Nat) : posT out x k ≤ k := by
  induction k with
  | zero => exact Nat.le_refl _
  | succ k ih => unfold posT; split <;> omega
theorem insT_length (out : List It) (x : It) : (insT out x).length = out.length + 1 := by
  unfold insT
  have := posT_le out x out.length
  simp; omega
theorem sortT_length (l : List It) : (sortT l).length = l.length := by
  unfold sortT
  suffices h : ∀ (l out : List It), (l.foldl insT out).length = out.length + l.length by have := h l []; simpa using this
  intro l
  induction l with
  | nil => intro out; rfl
  | cons x l ih => intro out; rw [List.foldl_cons, ih, insT_length, List.length_cons]; omega
theorem it_cells {w : World} {a : Option Addr} {n cap i : Nat} {xs : List It} {x : It} (h : Sq fT w (.slice a n cap) xs) (hi : xs[i]? = some x) :
    ∃ g off, a = some ⟨g, off, none⟩ ∧ w.cell? ⟨g, off + i * 3, none⟩ = some (.int .i64 x.k) ∧ w.cell? ⟨g, off + i * 3 + 1, none⟩ = some (.int .i64 x.v) ∧ w.cell? ⟨g, off + i * 3 + 2, none⟩ = some (.int .i64 x.d) := by
  obtain ⟨-, g, off, rfl, hc⟩ := Sq.cell fT_lays h hi
  exact ⟨g, off, rfl, hc 0 _ rfl, hc 1 _ rfl, hc 2 _ rfl⟩
/-- Where the sort stands: i of them are in. -/
def SrtAt (w : World) (l : List It) (u x : Value) (wr : World) : Prop := ∃ i, i ≤ l.length ∧ x = .int .i64 (i : Nat) ∧ wr.ownsRow w.heap.size 43 3 u (sortT (l.take i)).length ((sortT (l.take i)).flatMap fT) ∧ Fr [] w wr
/-- Where the search for an item's place stands. -/
def PosAt (wr : World) (out : List It) (x : It) (u : Value) (w' : World) : Prop := ∃ k, k ≤ out.length ∧ u = .int .i64 (k : Nat) ∧ Fr [] wr w' ∧ posT out x out.length = posT out x k
set_option maxHeartbeats 6400000 in
theorem sort_any (l : List It) (v : Value) (w : World) (hl : l.length ≤ 1000) (h : Sq fT w v l) :
    Calls Tryd.prog 10 #[v] w fun e w' => (∃ u, e = .returned u ∧ w'.ownsRow w.heap.size 43 3 u (sortT l).length ((sortT l).flatMap fT)) ∧ Fr [] w w' := by
  obtain ⟨a, cap, rfl, hcap, hmax, -⟩ := id h
  go_enter Tryd.func10, Tryd.ntmps10
  go_wp2_with fail
  go_loopw [3, 4] (SrtAt w l) (fun _ x _ => l.length - (intOf x).toNat)
  case atStart => exact ⟨0, by omega, rfl, ⟨rfl, .inl ⟨rfl, rfl⟩⟩, Fr.refl _ _⟩
  case round =>
    obtain ⟨i, hi, rfl, hr, F⟩ := hrel
    by_cases hlt : i < l.length
    · obtain ⟨x, hx⟩ : ∃ x, l[i]? = some x := ⟨l[i], List.getElem?_eq_getElem hlt⟩
      have hso := sortT_length (l.take i)
      have hnx : sortT (l.take (i + 1)) = insT (sortT (l.take i)) x := by
        unfold sortT
        rw [List.take_add_one, hx, Option.toList_some, List.foldl_append]; rfl
      generalize sortT (l.take i) = out at *
      have hol : out.length ≤ 1000 := by rw [hso, List.length_take]; omega
      obtain ⟨ao, co, rfl, hco, hcm, -⟩ := id (Sq.own (f := fT) hr)
      have HO := Sq.own (f := fT) hr
      have HN := Lib.hid (And.intro hnx hol)
      clear hnx hso
      go_wp2_with fail
      go_loopw [5] (PosAt wr out x) (fun u _ => (intOf u).toNat)
      case atStart => exact ⟨out.length, Nat.le_refl _, rfl, Fr.refl _ _, rfl⟩
      case round =>
        obtain ⟨k, hk, rfl, F2, hp⟩ := hrel
        rcases k with _ | j
        · obtain ⟨gl, ol, rfl, -, -, -⟩ := it_cells (h.up (F.trans F2)) hx
          by_cases h00 : out.length = 0
          · obtain rfl : out = [] := List.eq_nil_of_length_eq_zero h00
            go_wp2_with fail
            refine wp_region_in (by kernel_rfl) (by kernel_rfl) ?_
            repeat (go_big_quiet_step (fail))
            refine wpQuiet_nil ?_
            intro w5 F5
            go_wp2_with fail
            have FW := (F.trans F2).trans F5
            have HO5 := HO.up (F2.trans F5)
            have HL5 := Lib.hid (h.up FW)
            refine wp_region_env (by kernel_rfl) [] (fun w2 F2' => ?_)
            refine env_pass [true, true, true, false, true, true, true, true, false, false, true, true, true, false, false] 5 (n := 75) (listed' := #[true, true, true, false, true, true, true, true, false, false, true, true, true, false, false]) rfl (by kernel_rfl) (by kernel_rfl) (by kernel_rfl) rfl (by kernel_rfl) (fun _ _ d _ _ h => by cases d <;> exact h) F2' ?_
            apply Exists.intro
            refine ⟨fun wf Ff => ?_, ?_⟩
            · obtain ⟨gl', ol', hgl, x0, x1, x2⟩ := it_cells (HL5.out.up Ff) hx
              simp only [Option.some.injEq, Addr.mk.injEq] at hgl
              obtain ⟨rfl, rfl, -⟩ := hgl
              have j0 := In.cell x0
              have j1 := In.cell x1
              have j2 := In.cell x2
              clear x0 x1 x2
              simp only [sel]
              repeat (go_big_quiet_step (fail))
              exact wpQuiet_nil rfl
            have HS1 := Lib.hid (Sq.empty (f := fT) w5 ao hcm)
            have HS2 := Lib.hid (Sq.empty (f := fT) w5 ao hcm)
            have HT := Lib.hid (show ([] : List It).length ≤ 1000 ∧ ([] : List It).length ≤ 1000 ∧ insT [] x = [] ++ [x] ++ [] from ⟨by simp, by simp, rfl⟩)
            refine env_ready [3, 8] (by kernel_rfl) (by simp) (fun w10 F10 m hm o ho => ?_)
            have G := F2'.trans F10
            clear F10 F2'
            simp only [List.mem_cons, List.not_mem_nil, or_false] at hm
            rcases hm with rfl | rfl
            · obtain rfl := Option.some.inj ho
              have S1' := HS1.out.up G
              go_wp2_with (at_builtin; refine wpList_appSq fT_lays rfl _ _ 22 rfl Tryd.underlying22 itI rfl (B := w5.heap.size) (.slice none 0 0) [] rfl ⟨rfl, .inl ⟨rfl, rfl⟩⟩ _ ([] : List It) rfl S1' (by have := HT.out; simp <;> omega) (by decide) G.size ?_; intro a21 c21 w21 r21 f21)
              rw [List.nil_append] at r21
              replace G := G.trans f21
              clear f21 S1'
              refine nx_normal ⟨G, ?_⟩
              refine env_one 8 (by kernel_rfl) rfl rfl (fun w11 F11 => ?_)
              have r11 := row_keeps r21 F11
              replace G := G.trans F11
              clear r21 F11
              go_wp2_with fail
              have F12 := (Fr.refl [] w11).alloc (.cells #[.int .i64 x.k, .int .i64 x.v, .int .i64 x.d] 43)
              have B21 := Go.heap_alloc_new w11 (.cells #[.int .i64 x.k, .int .i64 x.v, .int .i64 x.d] 43)
              have r21 := row_keeps r11 F12
              replace G := G.trans F12
              clear r11 F12 ho
              refine nx_normal ⟨G, ?_⟩
              refine env_one 9 (by kernel_rfl) rfl rfl (fun w13 F13 => ?_)
              have r22 := row_keeps r21 F13
              have B22 := F13.heap B21 (by simp)
              replace G := G.trans F13
              clear r21 B21 F13
              go_wp2_with (at_builtin; refine wpList_appSq fT_lays rfl _ _ 22 rfl Tryd.underlying22 itI rfl (B := w5.heap.size) _ ([] : List It) rfl r22 _ [x] rfl (Sq.block B22 rfl rfl (Nat.le_refl _) (by simp [maxLen])) (by have := HT.out; simp <;> omega) (by decide) G.size ?_; intro a23 c23 w23 r23 f23; generalize hT3 : ([] : List It) ++ [x] = T3 at r23 ⊢)
              replace G := G.own f23 (row_base r22)
              clear f23 r22 B22
              refine nx_normal ⟨G, ?_⟩
              refine env_one 13 (by kernel_rfl) rfl rfl (fun w14 F14 => ?_)
              have r24 := row_keeps r23 F14
              replace G := G.trans F14
              clear r23 F14
              have S2' := HS2.out.up G
              go_wp2_with (at_builtin; refine wpList_appSq fT_lays rfl _ _ 22 rfl Tryd.underlying22 itI rfl (B := w5.heap.size) _ T3 rfl r24 _ ([] : List It) rfl S2' (by have := HT.out; rw [← hT3]; simp <;> omega) (by decide) G.size ?_; intro a25 c25 w25 r25 f25; generalize hT4 : T3 ++ ([] : List It) = T4 at r25 ⊢)
              replace G := G.own f25 (row_base r24)
              clear f25 r24 S2'
              refine nx_normal ⟨G, ?_⟩
              refine env_one 14 (by kernel_rfl) rfl rfl (fun w15 F15 => ?_)
              have r26 := row_keeps r25 F15
              replace G := G.trans F15
              clear r25 F15
              go_wp2
              refine nx_normal ⟨G, ?_⟩
              refine env_done (by kernel_rfl) (fun w16 F16 => ?_)
              have r27 := row_keeps r26 F16
              replace G := G.trans F16
              clear r26 F16
              have e26 : sortT (l.take (i + 1)) = T4 := by rw [HN.out.1, HT.out.2.2, hT3, hT4]
              rw [← e26] at r27 ⊢
              have r28 := row_more r27 FW.size
              go_wp2
              exact ⟨⟨i + 1, by omega, by go_num, r28, FW.trans G⟩, by simp [intOf]; omega⟩
            · obtain rfl := Option.some.inj ho
              go_wp2_with fail
              have F12 := (Fr.refl [] w10).alloc (.cells #[.int .i64 x.k, .int .i64 x.v, .int .i64 x.d] 43)
              have B12 := Go.heap_alloc_new w10 (.cells #[.int .i64 x.k, .int .i64 x.v, .int .i64 x.d] 43)
              replace G := G.trans F12
              clear F12 ho
              refine nx_normal ⟨G, ?_⟩
              refine env_one 3 (by kernel_rfl) rfl rfl (fun w11 F11 => ?_)
              have B13 := F11.heap B12 (by simp)
              replace G := G.trans F11
              clear B12 F11
              have S1' := HS1.out.up G
              go_wp2_with (at_builtin; refine wpList_appSq fT_lays rfl _ _ 22 rfl Tryd.underlying22 itI rfl (B := w5.heap.size) (.slice none 0 0) [] rfl ⟨rfl, .inl ⟨rfl, rfl⟩⟩ _ ([] : List It) rfl S1' (by have := HT.out; simp <;> omega) (by decide) G.size ?_; intro a21 c21 w21 r21 f21)
              rw [List.nil_append] at r21
              have B21 := Fr.heap f21 B13 (by simp [Value.ownBlock])
              replace G := G.trans f21
              clear f21 B13 S1'
              refine nx_normal ⟨G, ?_⟩
              refine env_one 9 (by kernel_rfl) rfl rfl (fun w13 F13 => ?_)
              have r22 := row_keeps r21 F13
              have B22 := F13.heap B21 (by simp)
              replace G := G.trans F13
              clear r21 B21 F13
              go_wp2_with (at_builtin; refine wpList_appSq fT_lays rfl _ _ 22 rfl Tryd.underlying22 itI rfl (B := w5.heap.size) _ ([] : List It) rfl r22 _ [x] rfl (Sq.block B22 rfl rfl (Nat.le_refl _) (by simp [maxLen])) (by have := HT.out; simp <;> omega) (by decide) G.size ?_; intro a23 c23 w23 r23 f23; generalize hT3 : ([] : List It) ++ [x] = T3 at r23 ⊢)
              replace G := G.own f23 (row_base r22)
              clear f23 r22 B22
              refine nx_normal ⟨G, ?_⟩
              refine env_one 13 (by kernel_rfl) rfl rfl (fun w14 F14 => ?_)
              have r24 := row_keeps r23 F14
              replace G := G.trans F14
              clear r23 F14
              have S2' := HS2.out.up G
              go_wp2_with (at_builtin; refine wpList_appSq fT_lays rfl _ _ 22 rfl Tryd.underlying22 itI rfl (B := w5.heap.size) _ T3 rfl r24 _ ([] : List It) rfl S2' (by have := HT.out; rw [← hT3]; simp <;> omega) (by decide) G.size ?_; intro a25 c25 w25 r25 f25; generalize hT4 : T3 ++ ([] : List It) = T4 at r25 ⊢)
              replace G := G.own f25 (row_base r24)
              clear f25 r24 S2'
              refine nx_normal ⟨G, ?_⟩
              refine env_one 14 (by kernel_rfl) rfl rfl (fun w15 F15 => ?_)
              have r26 := row_keeps r25 F15
              replace G := G.trans F15
              clear r25 F15
              go_wp2
              refine nx_normal ⟨G, ?_⟩
              refine env_done (by kernel_rfl) (fun w16 F16 => ?_)
              have r27 := row_keeps r26 F16
              replace G := G.trans F16
              clear r26 F16
              have e26 : sortT (l.take (i + 1)) = T4 := by rw [HN.out.1, HT.out.2.2, hT3, hT4]
              rw [← e26] at r27 ⊢
              have r28 := row_more r27 FW.size
              go_wp2
              exact ⟨⟨i + 1, by omega, by go_num, r28, FW.trans G⟩, by simp [intOf]; omega⟩
          · obtain ⟨y, hy⟩ : ∃ y, out[0]? = some y := ⟨out[0], List.getElem?_eq_getElem (by omega)⟩
            obtain ⟨go, oo, rfl, -, -, -⟩ := it_cells HO hy
            go_wp2_with fail
            refine wp_region_in (by kernel_rfl) (by kernel_rfl) ?_
            repeat (go_big_quiet_step (fail))
            refine wpQuiet_nil ?_
            intro w5 F5
            go_wp2_with fail
            have FW := (F.trans F2).trans F5
            have HO5 := HO.up (F2.trans F5)
            have HL5 := Lib.hid (h.up FW)
            refine wp_region_env (by kernel_rfl) [] (fun w2 F2' => ?_)
            refine env_pass [true, true, true, false, true, true, true, true, false, false, true, true, true, false, false] 5 (n := 75) (listed' := #[true, true, true, false, true, true, true, true, false, false, true, true, true, false, false]) rfl (by kernel_rfl) (by kernel_rfl) (by kernel_rfl) rfl (by kernel_rfl) (fun _ _ d _ _ h => by cases d <;> exact h) F2' ?_
            apply Exists.intro
            refine ⟨fun wf Ff => ?_, ?_⟩
            · obtain ⟨gl', ol', hgl, x0, x1, x2⟩ := it_cells (HL5.out.up Ff) hx
              simp only [Option.some.injEq, Addr.mk.injEq] at hgl
              obtain ⟨rfl, rfl, -⟩ := hgl
              have j0 := In.cell x0
              have j1 := In.cell x1
              have j2 := In.cell x2
              clear x0 x1 x2
              simp only [sel]
              repeat (go_big_quiet_step (fail))
              exact wpQuiet_nil rfl
            have HS1 := Lib.hid (Sq.empty (f := fT) w5 (some ⟨go, oo, none⟩) hcm)
            have HS2 := Lib.hid (HO5)
            have HT := Lib.hid (show ([] : List It).length ≤ 1000 ∧ out.length ≤ 1000 ∧ insT out x = [] ++ [x] ++ out from ⟨by simp, HN.out.2, by unfold insT; rw [hp]; rfl⟩)
            refine env_ready [3, 8] (by kernel_rfl) (by simp) (fun w10 F10 m hm o ho => ?_)
            have G := F2'.trans F10
            clear F10 F2'
            simp only [List.mem_cons, List.not_mem_nil, or_false] at hm
            rcases hm with rfl | rfl
            · obtain rfl := Option.some.inj ho
              have S1' := HS1.out.up G
              go_wp2_with (at_builtin; refine wpList_appSq fT_lays rfl _ _ 22 rfl Tryd.underlying22 itI rfl (B := w5.heap.size) (.slice none 0 0) [] rfl ⟨rfl, .inl ⟨rfl, rfl⟩⟩ _ ([] : List It) rfl S1' (by have := HT.out; simp <;> omega) (by decide) G.size ?_; intro a21 c21 w21 r21 f21)
              rw [List.nil_append] at r21
              replace G := G.trans f21
              clear f21 S1'
              refine nx_normal ⟨G, ?_⟩
              refine env_one 8 (by kernel_rfl) rfl rfl (fun w11 F11 => ?_)
              have r11 := row_keeps r21 F11
              replace G := G.trans F11
              clear r21 F11
              go_wp2_with fail
              have F12 := (Fr.refl [] w11).alloc (.cells #[.int .i64 x.k, .int .i64 x.v, .int .i64 x.d] 43)
              have B21 := Go.heap_alloc_new w11 (.cells #[.int .i64 x.k, .int .i64 x.v, .int .i64 x.d] 43)
              have r21 := row_keeps r11 F12
              replace G := G.trans F12
              clear r11 F12 ho
              refine nx_normal ⟨G, ?_⟩
              refine env_one 9 (by kernel_rfl) rfl rfl (fun w13 F13 => ?_)
              have r22 := row_keeps r21 F13
              have B22 := F13.heap B21 (by simp)
              replace G := G.trans F13
              clear r21 B21 F13
              go_wp2_with (at_builtin; refine wpList_appSq fT_lays rfl _ _ 22 rfl Tryd.underlying22 itI rfl (B := w5.heap.size) _ ([] : List It) rfl r22 _ [x] rfl (Sq.block B22 rfl rfl (Nat.le_refl _) (by simp [maxLen])) (by have := HT.out; simp <;> omega) (by decide) G.size ?_; intro a23 c23 w23 r23 f23; generalize hT3 : ([] : List It) ++ [x] = T3 at r23 ⊢)
              replace G := G.own f23 (row_base r22)
              clear f23 r22 B22
              refine nx_normal ⟨G, ?_⟩
              refine env_one 13 (by kernel_rfl) rfl rfl (fun w14 F14 => ?_)
              have r24 := row_keeps r23 F14
              replace G := G.trans F14
              clear r23 F14
              have S2' := HS2.out.up G
              go_wp2_with (at_builtin; refine wpList_appSq fT_lays rfl _ _ 22 rfl Tryd.underlying22 itI rfl (B := w5.heap.size) _ T3 rfl r24 _ out rfl S2' (by have := HT.out; rw [← hT3]; simp <;> omega) (by decide) G.size ?_; intro a25 c25 w25 r25 f25; generalize hT4 : T3 ++ out = T4 at r25 ⊢)
              replace G := G.own f25 (row_base r24)
              clear f25 r24 S2'
              refine nx_normal ⟨G, ?_⟩
              refine env_one 14 (by kernel_rfl) rfl rfl (fun w15 F15 => ?_)
              have r26 := row_keeps r25 F15
              replace G := G.trans F15
              clear r25 F15
              go_wp2
              refine nx_normal ⟨G, ?_⟩
              refine env_done (by kernel_rfl) (fun w16 F16 => ?_)
              have r27 := row_keeps r26 F16
              replace G := G.trans F16
              clear r26 F16
              have e26 : sortT (l.take (i + 1)) = T4 := by rw [HN.out.1, HT.out.2.2, hT3, hT4]
              rw [← e26] at r27 ⊢
              have r28 := row_more r27 FW.size
              go_wp2
              exact ⟨⟨i + 1, by omega, by go_num, r28, FW.trans G⟩, by simp [intOf]; omega⟩
            · obtain rfl := Option.some.inj ho
              go_wp2_with fail
              have F12 := (Fr.refl [] w10).alloc (.cells #[.int .i64 x.k, .int .i64 x.v, .int .i64 x.d] 43)
              have B12 := Go.heap_alloc_new w10 (.cells #[.int .i64 x.k, .int .i64 x.v, .int .i64 x.d] 43)
              replace G := G.trans F12
              clear F12 ho
              refine nx_normal ⟨G, ?_⟩
              refine env_one 3 (by kernel_rfl) rfl rfl (fun w11 F11 => ?_)
              have B13 := F11.heap B12 (by simp)
              replace G := G.trans F11
              clear B12 F11
              have S1' := HS1.out.up G
              go_wp2_with (at_builtin; refine wpList_appSq fT_lays rfl _ _ 22 rfl Tryd.underlying22 itI rfl (B := w5.heap.size) (.slice none 0 0) [] rfl ⟨rfl, .inl ⟨rfl, rfl⟩⟩ _ ([] : List It) rfl S1' (by have := HT.out; simp <;> omega) (by decide) G.size ?_; intro a21 c21 w21 r21 f21)
              rw [List.nil_append] at r21
              have B21 := Fr.heap f21 B13 (by simp [Value.ownBlock])
              replace G := G.trans f21
              clear f21 B13 S1'
              refine nx_normal ⟨G, ?_⟩
              refine env_one 9 (by kernel_rfl) rfl rfl (fun w13 F13 => ?_)
              have r22 := row_keeps r21 F13
              have B22 := F13.heap B21 (by simp)
              replace G := G.trans F13
              clear r21 B21 F13
              go_wp2_with (at_builtin; refine wpList_appSq fT_lays rfl _ _ 22 rfl Tryd.underlying22 itI rfl (B := w5.heap.size) _ ([] : List It) rfl r22 _ [x] rfl (Sq.block B22 rfl rfl (Nat.le_refl _) (by simp [maxLen])) (by have := HT.out; simp <;> omega) (by decide) G.size ?_; intro a23 c23 w23 r23 f23; generalize hT3 : ([] : List It) ++ [x] = T3 at r23 ⊢)
              replace G := G.own f23 (row_base r22)
              clear f23 r22 B22
              refine nx_normal ⟨G, ?_⟩
              refine env_one 13 (by kernel_rfl) rfl rfl (fun w14 F14 => ?_)
              have r24 := row_keeps r23 F14
              replace G := G.trans F14
              clear r23 F14
              have S2' := HS2.out.up G
              go_wp2_with (at_builtin; refine wpList_appSq fT_lays rfl _ _ 22 rfl Tryd.underlying22 itI rfl (B := w5.heap.size) _ T3 rfl r24 _ out rfl S2' (by have := HT.out; rw [← hT3]; simp <;> omega) (by decide) G.size ?_; intro a25 c25 w25 r25 f25; generalize hT4 : T3 ++ out = T4 at r25 ⊢)
              replace G := G.own f25 (row_base r24)
              clear f25 r24 S2'
              refine nx_normal ⟨G, ?_⟩
              refine env_one 14 (by kernel_rfl) rfl rfl (fun w15 F15 => ?_)
              have r26 := row_keeps r25 F15
              replace G := G.trans F15
              clear r25 F15
              go_wp2
              refine nx_normal ⟨G, ?_⟩
              refine env_done (by kernel_rfl) (fun w16 F16 => ?_)
              have r27 := row_keeps r26 F16
              replace G := G.trans F16
              clear r26 F16
              have e26 : sortT (l.take (i + 1)) = T4 := by rw [HN.out.1, HT.out.2.2, hT3, hT4]
              rw [← e26] at r27 ⊢
              have r28 := row_more r27 FW.size
              go_wp2
              exact ⟨⟨i + 1, by omega, by go_num, r28, FW.trans G⟩, by simp [intOf]; omega⟩
        · obtain ⟨y, hy⟩ : ∃ y, out[j]? = some y := ⟨out[j], List.getElem?_eq_getElem (by omega)⟩
          have HO2 := HO.up F2
          have HL2 := h.up (F.trans F2)
          obtain ⟨go, oo, rfl, y0, y1, y2⟩ := it_cells HO2 hy
          obtain ⟨gl, ol, rfl, x0, x1, x2⟩ := it_cells HL2 hx
          have hj1 : ((j + 1 : Nat) : Int) - 1 = (j : Nat) := by omega
          have hps := posT_succ (x := x) hy
          have n0 := In.cell y0
          have n1 := In.cell y1
          have m0 := In.cell x0
          have m1 := In.cell x1
          clear HO2 HL2
          by_cases e1 : y.k > x.k
          · have g1 : decide (y.k > x.k) = true := by simpa using e1
            have hg : gtT y x = true := by unfold gtT; rw [g1]; rfl
            have HP := Lib.hid (show posT out x (j + 1) = posT out x j by rw [hps, if_pos hg])
            clear hps hg
            go_wp2_with fail
            refine wp_region_in (by kernel_rfl) (by kernel_rfl) ?_
            repeat (go_big_quiet_step (fail))
            refine wpQuiet_nil ?_
            intro w5 F5
            go_wp2_with fail
            exact ⟨⟨j, by omega, rfl, F2.trans F5, hp.trans HP.out⟩, by simp [intOf]⟩
          · have g1 : decide (y.k > x.k) = false := by simpa using e1
            by_cases e2 : y.k = x.k
            · have g2 : (y.k == x.k) = true := by simpa using e2
              by_cases e3 : y.v > x.v
              · have g3 : decide (y.v > x.v) = true := by simpa using e3
                have hg : gtT y x = true := by unfold gtT; rw [g1, g2, g3]; rfl
                have HP := Lib.hid (show posT out x (j + 1) = posT out x j by rw [hps, if_pos hg])
                clear hps hg e2
                go_wp2_with fail
                refine wp_region_in (by kernel_rfl) (by kernel_rfl) ?_
                repeat (go_big_quiet_step (fail))
                refine wpQuiet_nil ?_
                intro w5 F5
                go_wp2_with fail
                exact ⟨⟨j, by omega, rfl, F2.trans F5, hp.trans HP.out⟩, by simp [intOf]⟩
              · have g3 : decide (y.v > x.v) = false := by simpa using e3
                have hg : gtT y x = false := by unfold gtT; rw [g1, g2, g3]; rfl
                have HP := Lib.hid (show posT out x (j + 1) = j + 1 by rw [hps, if_neg (by simp [hg])])
                clear hps hg e2
                go_wp2_with fail
                refine wp_region_in (by kernel_rfl) (by kernel_rfl) ?_
                repeat (go_big_quiet_step (fail))
                refine wpQuiet_nil ?_
                intro w5 F5
                clear n0 n1 m0 m1 y0 y1 y2 x0 x1 x2
                by_cases hjl : j + 1 < out.length
                · go_wp2_with fail
                  have FW := (F.trans F2).trans F5
                  have HO5 := HO.up (F2.trans F5)
                  have HL5 := Lib.hid (h.up FW)
                  refine wp_region_env (by kernel_rfl) [] (fun w2 F2' => ?_)
                  refine env_pass [true, true, true, false, true, true, true, true, false, false, true, true, true, false, false] 5 (n := 75) (listed' := #[true, true, true, false, true, true, true, true, false, false, true, true, true, false, false]) rfl (by kernel_rfl) (by kernel_rfl) (by kernel_rfl) rfl (by kernel_rfl) (fun _ _ d _ _ h => by cases d <;> exact h) F2' ?_
                  apply Exists.intro
                  refine ⟨fun wf Ff => ?_, ?_⟩
                  · obtain ⟨gl', ol', hgl, x0, x1, x2⟩ := it_cells (HL5.out.up Ff) hx
                    simp only [Option.some.injEq, Addr.mk.injEq] at hgl
                    obtain ⟨rfl, rfl, -⟩ := hgl
                    have j0 := In.cell x0
                    have j1 := In.cell x1
                    have j2 := In.cell x2
                    clear x0 x1 x2
                    simp only [sel]
                    repeat (go_big_quiet_step (fail))
                    exact wpQuiet_nil rfl
                  have HS1 := Lib.hid (Sq.take fT_lays HO5 (j + 1) (by omega))
                  have HS2 := Lib.hid (Sq.drop fT_lays HO5 (j + 1) (by omega))
                  have HT := Lib.hid (show (out.take (j + 1)).length ≤ 1000 ∧ (out.drop (j + 1)).length ≤ 1000 ∧ insT out x = out.take (j + 1) ++ [x] ++ out.drop (j + 1) from ⟨by have := HN.out; simp; omega, by have := HN.out; simp; omega, by unfold insT; rw [hp, HP.out]⟩)
                  generalize out.take (j + 1) = T1 at HS1 HT
                  generalize out.drop (j + 1) = T2 at HS2 HT
                  refine env_ready [3, 8] (by kernel_rfl) (by simp) (fun w10 F10 m hm o ho => ?_)
                  have G := F2'.trans F10
                  clear F10 F2'
                  simp only [List.mem_cons, List.not_mem_nil, or_false] at hm
                  rcases hm with rfl | rfl
                  · obtain rfl := Option.some.inj ho
                    have S1' := HS1.out.up G
                    go_wp2_with (at_builtin; refine wpList_appSq fT_lays rfl _ _ 22 rfl Tryd.underlying22 itI rfl (B := w5.heap.size) (.slice none 0 0) [] rfl ⟨rfl, .inl ⟨rfl, rfl⟩⟩ _ T1 rfl S1' (by have := HT.out; simp <;> omega) (by decide) G.size ?_; intro a21 c21 w21 r21 f21)
                    rw [List.nil_append] at r21
                    replace G := G.trans f21
                    clear f21 S1'
                    refine nx_normal ⟨G, ?_⟩
                    refine env_one 8 (by kernel_rfl) rfl rfl (fun w11 F11 => ?_)
                    have r11 := row_keeps r21 F11
                    replace G := G.trans F11
                    clear r21 F11
                    go_wp2_with fail
                    have F12 := (Fr.refl [] w11).alloc (.cells #[.int .i64 x.k, .int .i64 x.v, .int .i64 x.d] 43)
                    have B21 := Go.heap_alloc_new w11 (.cells #[.int .i64 x.k, .int .i64 x.v, .int .i64 x.d] 43)
                    have r21 := row_keeps r11 F12
                    replace G := G.trans F12
                    clear r11 F12 ho
                    refine nx_normal ⟨G, ?_⟩
                    refine env_one 9 (by kernel_rfl) rfl rfl (fun w13 F13 => ?_)
                    have r22 := row_keeps r21 F13
                    have B22 := F13.heap B21 (by simp)
                    replace G := G.trans F13
                    clear r21 B21 F13
                    go_wp2_with (at_builtin; refine wpList_appSq fT_lays rfl _ _ 22 rfl Tryd.underlying22 itI rfl (B := w5.heap.size) _ T1 rfl r22 _ [x] rfl (Sq.block B22 rfl rfl (Nat.le_refl _) (by simp [maxLen])) (by have := HT.out; simp <;> omega) (by decide) G.size ?_; intro a23 c23 w23 r23 f23; generalize hT3 : T1 ++ [x] = T3 at r23 ⊢)
                    replace G := G.own f23 (row_base r22)
                    clear f23 r22 B22
                    refine nx_normal ⟨G, ?_⟩
                    refine env_one 13 (by kernel_rfl) rfl rfl (fun w14 F14 => ?_)
                    have r24 := row_keeps r23 F14
                    replace G := G.trans F14
                    clear r23 F14
                    have S2' := HS2.out.up G
                    go_wp2_with (at_builtin; refine wpList_appSq fT_lays rfl _ _ 22 rfl Tryd.underlying22 itI rfl (B := w5.heap.size) _ T3 rfl r24 _ T2 rfl S2' (by have := HT.out; rw [← hT3]; simp <;> omega) (by decide) G.size ?_; intro a25 c25 w25 r25 f25; generalize hT4 : T3 ++ T2 = T4 at r25 ⊢)
                    replace G := G.own f25 (row_base r24)
                    clear f25 r24 S2'
                    refine nx_normal ⟨G, ?_⟩
                    refine env_one 14 (by kernel_rfl) rfl rfl (fun w15 F15 => ?_)
                    have r26 := row_keeps r25 F15
                    replace G := G.trans F15
                    clear r25 F15
                    go_wp2
                    refine nx_normal ⟨G, ?_⟩
                    refine env_done (by kernel_rfl) (fun w16 F16 => ?_)
                    have r27 := row_keeps r26 F16
                    replace G := G.trans F16
                    clear r26 F16
                    have e26 : sortT (l.take (i + 1)) = T4 := by rw [HN.out.1, HT.out.2.2, hT3, hT4]
                    rw [← e26] at r27 ⊢
                    have r28 := row_more r27 FW.size
                    go_wp2
                    exact ⟨⟨i + 1, by omega, by go_num, r28, FW.trans G⟩, by simp [intOf]; omega⟩
                  · obtain rfl := Option.some.inj ho
                    go_wp2_with fail
                    have F12 := (Fr.refl [] w10).alloc (.cells #[.int .i64 x.k, .int .i64 x.v, .int .i64 x.d] 43)
                    have B12 := Go.heap_alloc_new w10 (.cells #[.int .i64 x.k, .int .i64 x.v, .int .i64 x.d] 43)
                    replace G := G.trans F12
                    clear F12 ho
                    refine nx_normal ⟨G, ?_⟩
                    refine env_one 3 (by kernel_rfl) rfl rfl (fun w11 F11 => ?_)
                    have B13 := F11.heap B12 (by simp)
                    replace G := G.trans F11
                    clear B12 F11
                    have S1' := HS1.out.up G
                    go_wp2_with (at_builtin; refine wpList_appSq fT_lays rfl _ _ 22 rfl Tryd.underlying22 itI rfl (B := w5.heap.size) (.slice none 0 0) [] rfl ⟨rfl, .inl ⟨rfl, rfl⟩⟩ _ T1 rfl S1' (by have := HT.out; simp <;> omega) (by decide) G.size ?_; intro a21 c21 w21 r21 f21)
                    rw [List.nil_append] at r21
                    have B21 := Fr.heap f21 B13 (by simp [Value.ownBlock])
                    replace G := G.trans f21
                    clear f21 B13 S1'
                    refine nx_normal ⟨G, ?_⟩
                    refine env_one 9 (by kernel_rfl) rfl rfl (fun w13 F13 => ?_)
                    have r22 := row_keeps r21 F13
                    have B22 := F13.heap B21 (by simp)
                    replace G := G.trans F13
                    clear r21 B21 F13
                    go_wp2_with (at_builtin; refine wpList_appSq fT_lays rfl _ _ 22 rfl Tryd.underlying22 itI rfl (B := w5.heap.size) _ T1 rfl r22 _ [x] rfl (Sq.block B22 rfl rfl (Nat.le_refl _) (by simp [maxLen])) (by have := HT.out; simp <;> omega) (by decide) G.size ?_; intro a23 c23 w23 r23 f23; generalize hT3 : T1 ++ [x] = T3 at r23 ⊢)
                    replace G := G.own f23 (row_base r22)
                    clear f23 r22 B22
                    refine nx_normal ⟨G, ?_⟩
                    refine env_one 13 (by kernel_rfl) rfl rfl (fun w14 F14 => ?_)
                    have r24 := row_keeps r23 F14
                    replace G := G.trans F14
                    clear r23 F14
                    have S2' := HS2.out.up G
                    go_wp2_with (at_builtin; refine wpList_appSq fT_lays rfl _ _ 22 rfl Tryd.underlying22 itI rfl (B := w5.heap.size) _ T3 rfl r24 _ T2 rfl S2' (by have := HT.out; rw [← hT3]; simp <;> omega) (by decide) G.size ?_; intro a25 c25 w25 r25 f25; generalize hT4 : T3 ++ T2 = T4 at r25 ⊢)
                    replace G := G.own f25 (row_base r24)
                    clear f25 r24 S2'
                    refine nx_normal ⟨G, ?_⟩
                    refine env_one 14 (by kernel_rfl) rfl rfl (fun w15 F15 => ?_)
                    have r26 := row_keeps r25 F15
                    replace G := G.trans F15
                    clear r25 F15
                    go_wp2
                    refine nx_normal ⟨G, ?_⟩
                    refine env_done (by kernel_rfl) (fun w16 F16 => ?_)
                    have r27 := row_keeps r26 F16
                    replace G := G.trans F16
                    clear r26 F16
                    have e26 : sortT (l.take (i + 1)) = T4 := by rw [HN.out.1, HT.out.2.2, hT3, hT4]
                    rw [← e26] at r27 ⊢
                    have r28 := row_more r27 FW.size
                    go_wp2
                    exact ⟨⟨i + 1, by omega, by go_num, r28, FW.trans G⟩, by simp [intOf]; omega⟩
                · have hje : j + 1 = out.length := by omega
                  go_wp2_with fail
                  have FW := (F.trans F2).trans F5
                  have HO5 := HO.up (F2.trans F5)
                  have HL5 := Lib.hid (h.up FW)
                  refine wp_region_env (by kernel_rfl) [] (fun w2 F2' => ?_)
                  refine env_pass [true, true, true, false, true, true, true, true, false, false, true, true, true, false, false] 5 (n := 75) (listed' := #[true, true, true, false, true, true, true, true, false, false, true, true, true, false, false]) rfl (by kernel_rfl) (by kernel_rfl) (by kernel_rfl) rfl (by kernel_rfl) (fun _ _ d _ _ h => by cases d <;> exact h) F2' ?_
                  apply Exists.intro
                  refine ⟨fun wf Ff => ?_, ?_⟩
                  · obtain ⟨gl', ol', hgl, x0, x1, x2⟩ := it_cells (HL5.out.up Ff) hx
                    simp only [Option.some.injEq, Addr.mk.injEq] at hgl
                    obtain ⟨rfl, rfl, -⟩ := hgl
                    have j0 := In.cell x0
                    have j1 := In.cell x1
                    have j2 := In.cell x2
                    clear x0 x1 x2
                    simp only [sel]
                    repeat (go_big_quiet_step (fail))
                    exact wpQuiet_nil rfl
                  have hc2 : co - out.length ≤ maxLen := by omega
                  generalize co - out.length = c2 at hc2 ⊢
                  generalize (if co = out.length then some (⟨go, oo, none⟩ : Addr) else some (⟨go, oo + out.length * 3, none⟩ : Addr)) = a2
                  have HS1 := Lib.hid (HO5)
                  have HS2 := Lib.hid (Sq.empty (f := fT) w5 a2 hc2)
                  have hend : posT out x out.length = out.length := by have := HP.out; rw [hje] at this; exact this
                  obtain ⟨T1, hT1⟩ : ∃ T1, T1 = out := ⟨out, rfl⟩
                  have HT := Lib.hid (show T1.length ≤ 1000 ∧ ([] : List It).length ≤ 1000 ∧ insT out x = T1 ++ [x] ++ [] from ⟨by rw [hT1]; have := HN.out; omega, by simp, by rw [hT1]; unfold insT; rw [hend, List.take_length, List.drop_length]⟩)
                  have HS1 := Lib.hid (show Sq fT w5 (.slice (some ⟨go, oo, none⟩) T1.length co) T1 by rw [hT1]; exact HO5)
                  rw [← hT1]
                  have HT1 := Lib.hid hT1
                  clear hT1 hend
                  refine env_ready [3, 8] (by kernel_rfl) (by simp) (fun w10 F10 m hm o ho => ?_)
                  have G := F2'.trans F10
                  clear F10 F2'
                  simp only [List.mem_cons, List.not_mem_nil, or_false] at hm
                  rcases hm with rfl | rfl
                  · obtain rfl := Option.some.inj ho
                    have S1' := HS1.out.up G
                    go_wp2_with (at_builtin; refine wpList_appSq fT_lays rfl _ _ 22 rfl Tryd.underlying22 itI rfl (B := w5.heap.size) (.slice none 0 0) [] rfl ⟨rfl, .inl ⟨rfl, rfl⟩⟩ _ T1 rfl S1' (by have := HT.out; simp <;> omega) (by decide) G.size ?_; intro a21 c21 w21 r21 f21)
                    rw [List.nil_append] at r21
                    replace G := G.trans f21
                    clear f21 S1'
                    refine nx_normal ⟨G, ?_⟩
                    refine env_one 8 (by kernel_rfl) rfl rfl (fun w11 F11 => ?_)
                    have r11 := row_keeps r21 F11
                    replace G := G.trans F11
                    clear r21 F11
                    go_wp2_with fail
                    have F12 := (Fr.refl [] w11).alloc (.cells #[.int .i64 x.k, .int .i64 x.v, .int .i64 x.d] 43)
                    have B21 := Go.heap_alloc_new w11 (.cells #[.int .i64 x.k, .int .i64 x.v, .int .i64 x.d] 43)
                    have r21 := row_keeps r11 F12
                    replace G := G.trans F12
                    clear r11 F12 ho
                    refine nx_normal ⟨G, ?_⟩
                    refine env_one 9 (by kernel_rfl) rfl rfl (fun w13 F13 => ?_)
                    have r22 := row_keeps r21 F13
                    have B22 := F13.heap B21 (by simp)
                    replace G := G.trans F13
                    clear r21 B21 F13
                    go_wp2_with (at_builtin; refine wpList_appSq fT_lays rfl _ _ 22 rfl Tryd.underlying22 itI rfl (B := w5.heap.size) _ T1 rfl r22 _ [x] rfl (Sq.block B22 rfl rfl (Nat.le_refl _) (by simp [maxLen])) (by have := HT.out; simp <;> omega) (by decide) G.size ?_; intro a23 c23 w23 r23 f23; generalize hT3 : T1 ++ [x] = T3 at r23 ⊢)
                    replace G := G.own f23 (row_base r22)
                    clear f23 r22 B22
                    refine nx_normal ⟨G, ?_⟩
                    refine env_one 13 (by kernel_rfl) rfl rfl (fun w14 F14 => ?_)
                    have r24 := row_keeps r23 F14
                    replace G := G.trans F14
                    clear r23 F14
                    have S2' := HS2.out.up G
                    go_wp2_with (at_builtin; refine wpList_appSq fT_lays rfl _ _ 22 rfl Tryd.underlying22 itI rfl (B := w5.heap.size) _ T3 rfl r24 _ ([] : List It) rfl S2' (by have := HT.out; rw [← hT3]; simp <;> omega) (by decide) G.size ?_; intro a25 c25 w25 r25 f25; generalize hT4 : T3 ++ ([] : List It) = T4 at r25 ⊢)
                    replace G := G.own f25 (row_base r24)
                    clear f25 r24 S2'
                    refine nx_normal ⟨G, ?_⟩
                    refine env_one 14 (by kernel_rfl) rfl rfl (fun w15 F15 => ?_)
                    have r26 := row_keeps r25 F15
                    replace G := G.trans F15
                    clear r25 F15
                    go_wp2
                    refine nx_normal ⟨G, ?_⟩
                    refine env_done (by kernel_rfl) (fun w16 F16 => ?_)
                    have r27 := row_keeps r26 F16
                    replace G := G.trans F16
                    clear r26 F16
                    have e26 : sortT (l.take (i + 1)) = T4 := by rw [HN.out.1, HT.out.2.2, hT3, hT4]
                    rw [← e26] at r27 ⊢
                    have r28 := row_more r27 FW.size
                    go_wp2
                    exact ⟨⟨i + 1, by omega, by go_num, r28, FW.trans G⟩, by simp [intOf]; omega⟩
                  · obtain rfl := Option.some.inj ho
                    go_wp2_with fail
                    have F12 := (Fr.refl [] w10).alloc (.cells #[.int .i64 x.k, .int .i64 x.v, .int .i64 x.d] 43)
                    have B12 := Go.heap_alloc_new w10 (.cells #[.int .i64 x.k, .int .i64 x.v, .int .i64 x.d] 43)
                    replace G := G.trans F12
                    clear F12 ho
                    refine nx_normal ⟨G, ?_⟩
                    refine env_one 3 (by kernel_rfl) rfl rfl (fun w11 F11 => ?_)
                    have B13 := F11.heap B12 (by simp)
                    replace G := G.trans F11
                    clear B12 F11
                    have S1' := HS1.out.up G
                    go_wp2_with (at_builtin; refine wpList_appSq fT_lays rfl _ _ 22 rfl Tryd.underlying22 itI rfl (B := w5.heap.size) (.slice none 0 0) [] rfl ⟨rfl, .inl ⟨rfl, rfl⟩⟩ _ T1 rfl S1' (by have := HT.out; simp <;> omega) (by decide) G.size ?_; intro a21 c21 w21 r21 f21)
                    rw [List.nil_append] at r21
                    have B21 := Fr.heap f21 B13 (by simp [Value.ownBlock])
                    replace G := G.trans f21
                    clear f21 B13 S1'
                    refine nx_normal ⟨G, ?_⟩
                    refine env_one 9 (by kernel_rfl) rfl rfl (fun w13 F13 => ?_)
                    have r22 := row_keeps r21 F13
                    have B22 := F13.heap B21 (by simp)
                    replace G := G.trans F13
                    clear r21 B21 F13
                    go_wp2_with (at_builtin; refine wpList_appSq fT_lays rfl _ _ 22 rfl Tryd.underlying22 itI rfl (B := w5.heap.size) _ T1 rfl r22 _ [x] rfl (Sq.block B22 rfl rfl (Nat.le_refl _) (by simp [maxLen])) (by have := HT.out; simp <;> omega) (by decide) G.size ?_; intro a23 c23 w23 r23 f23; generalize hT3 : T1 ++ [x] = T3 at r23 ⊢)
                    replace G := G.own f23 (row_base r22)
                    clear f23 r22 B22
                    refine nx_normal ⟨G, ?_⟩
                    refine env_one 13 (by kernel_rfl) rfl rfl (fun w14 F14 => ?_)
                    have r24 := row_keeps r23 F14
                    replace G := G.trans F14
                    clear r23 F14
                    have S2' := HS2.out.up G
                    go_wp2_with (at_builtin; refine wpList_appSq fT_lays rfl _ _ 22 rfl Tryd.underlying22 itI rfl (B := w5.heap.size) _ T3 rfl r24 _ ([] : List It) rfl S2' (by have := HT.out; rw [← hT3]; simp <;> omega) (by decide) G.size ?_; intro a25 c25 w25 r25 f25; generalize hT4 : T3 ++ ([] : List It) = T4 at r25 ⊢)
                    replace G := G.own f25 (row_base r24)
                    clear f25 r24 S2'
                    refine nx_normal ⟨G, ?_⟩
                    refine env_one 14 (by kernel_rfl) rfl rfl (fun w15 F15 => ?_)
                    have r26 := row_keeps r25 F15
                    replace G := G.trans F15
                    clear r25 F15
                    go_wp2
                    refine nx_normal ⟨G, ?_⟩
                    refine env_done (by kernel_rfl) (fun w16 F16 => ?_)
                    have r27 := row_keeps r26 F16
                    replace G := G.trans F16
                    clear r26 F16
                    have e26 : sortT (l.take (i + 1)) = T4 := by rw [HN.out.1, HT.out.2.2, hT3, hT4]
                    rw [← e26] at r27 ⊢
                    have r28 := row_more r27 FW.size
                    go_wp2
                    exact ⟨⟨i + 1, by omega, by go_num, r28, FW.trans G⟩, by simp [intOf]; omega⟩
            · have g2 : (y.k == x.k) = false := by simpa using e2
              have hg : gtT y x = false := by unfold gtT; rw [g1, g2]; rfl
              have HP := Lib.hid (show posT out x (j + 1) = j + 1 by rw [hps, if_neg (by simp [hg])])
              clear hps hg
              go_wp2_with fail
              refine wp_region_in (by kernel_rfl) (by kernel_rfl) ?_
              repeat (go_big_quiet_step (fail))
              refine wpQuiet_nil ?_
              intro w5 F5
              clear n0 n1 m0 m1 y0 y1 y2 x0 x1 x2
              by_cases hjl : j + 1 < out.length
              · go_wp2_with fail
                have FW := (F.trans F2).trans F5
                have HO5 := HO.up (F2.trans F5)
                have HL5 := Lib.hid (h.up FW)
                refine wp_region_env (by kernel_rfl) [] (fun w2 F2' => ?_)
                refine env_pass [true, true, true, false, true, true, true, true, false, false, true, true, true, false, false] 5 (n := 75) (listed' := #[true, true, true, false, true, true, true, true, false, false, true, true, true, false, false]) rfl (by kernel_rfl) (by kernel_rfl) (by kernel_rfl) rfl (by kernel_rfl) (fun _ _ d _ _ h => by cases d <;> exact h) F2' ?_
                apply Exists.intro
                refine ⟨fun wf Ff => ?_, ?_⟩
                · obtain ⟨gl', ol', hgl, x0, x1, x2⟩ := it_cells (HL5.out.up Ff) hx
                  simp only [Option.some.injEq, Addr.mk.injEq] at hgl
                  obtain ⟨rfl, rfl, -⟩ := hgl
                  have j0 := In.cell x0
                  have j1 := In.cell x1
                  have j2 := In.cell x2
                  clear x0 x1 x2
                  simp only [sel]
                  repeat (go_big_quiet_step (fail))
                  exact wpQuiet_nil rfl
                have HS1 := Lib.hid (Sq.take fT_lays HO5 (j + 1) (by omega))
                have HS2 := Lib.hid (Sq.drop fT_lays HO5 (j + 1) (by omega))
                have HT := Lib.hid (show (out.take (j + 1)).length ≤ 1000 ∧ (out.drop (j + 1)).length ≤ 1000 ∧ insT out x = out.take (j + 1) ++ [x] ++ out.drop (j + 1) from ⟨by have := HN.out; simp; omega, by have := HN.out; simp; omega, by unfold insT; rw [hp, HP.out]⟩)
                generalize out.take (j + 1) = T1 at HS1 HT
                generalize out.drop (j + 1) = T2 at HS2 HT
                refine env_ready [3, 8] (by kernel_rfl) (by simp) (fun w10 F10 m hm o ho => ?_)
                have G := F2'.trans F10
                clear F10 F2'
                simp only [List.mem_cons, List.not_mem_nil, or_false] at hm
                rcases hm with rfl | rfl
                · obtain rfl := Option.some.inj ho
                  have S1' := HS1.out.up G
                  go_wp2_with (at_builtin; refine wpList_appSq fT_lays rfl _ _ 22 rfl Tryd.underlying22 itI rfl (B := w5.heap.size) (.slice none 0 0) [] rfl ⟨rfl, .inl ⟨rfl, rfl⟩⟩ _ T1 rfl S1' (by have := HT.out; simp <;> omega) (by decide) G.size ?_; intro a21 c21 w21 r21 f21)
                  rw [List.nil_append] at r21
                  replace G := G.trans f21
                  clear f21 S1'
                  refine nx_normal ⟨G, ?_⟩
                  refine env_one 8 (by kernel_rfl) rfl rfl (fun w11 F11 => ?_)
                  have r11 := row_keeps r21 F11
                  replace G := G.trans F11
                  clear r21 F11
                  go_wp2_with fail
                  have F12 := (Fr.refl [] w11).alloc (.cells #[.int .i64 x.k, .int .i64 x.v, .int .i64 x.d] 43)
                  have B21 := Go.heap_alloc_new w11 (.cells #[.int .i64 x.k, .int .i64 x.v, .int .i64 x.d] 43)
                  have r21 := row_keeps r11 F12
                  replace G := G.trans F12
                  clear r11 F12 ho
                  refine nx_normal ⟨G, ?_⟩
                  refine env_one 9 (by kernel_rfl) rfl rfl (fun w13 F13 => ?_)
                  have r22 := row_keeps r21 F13
                  have B22 := F13.heap B21 (by simp)
                  replace G := G.trans F13
                  clear r21 B21 F13
                  go_wp2_with (at_builtin; refine wpList_appSq fT_lays rfl _ _ 22 rfl Tryd.underlying22 itI rfl (B := w5.heap.size) _ T1 rfl r22 _ [x] rfl (Sq.block B22 rfl rfl (Nat.le_refl _) (by simp [maxLen])) (by have := HT.out; simp <;> omega) (by decide) G.size ?_; intro a23 c23 w23 r23 f23; generalize hT3 : T1 ++ [x] = T3 at r23 ⊢)
                  replace G := G.own f23 (row_base r22)
                  clear f23 r22 B22
                  refine nx_normal ⟨G, ?_⟩
                  refine env_one 13 (by kernel_rfl) rfl rfl (fun w14 F14 => ?_)
                  have r24 := row_keeps r23 F14
                  replace G := G.trans F14
                  clear r23 F14
                  have S2' := HS2.out.up G
                  go_wp2_with (at_builtin; refine wpList_appSq fT_lays rfl _ _ 22 rfl Tryd.underlying22 itI rfl (B := w5.heap.size) _ T3 rfl r24 _ T2 rfl S2' (by have := HT.out; rw [← hT3]; simp <;> omega) (by decide) G.size ?_; intro a25 c25 w25 r25 f25; generalize hT4 : T3 ++ T2 = T4 at r25 ⊢)
                  replace G := G.own f25 (row_base r24)
                  clear f25 r24 S2'
                  refine nx_normal ⟨G, ?_⟩
                  refine env_one 14 (by kernel_rfl) rfl rfl (fun w15 F15 => ?_)
                  have r26 := row_keeps r25 F15
                  replace G := G.trans F15
                  clear r25 F15
                  go_wp2
                  refine nx_normal ⟨G, ?_⟩
                  refine env_done (by kernel_rfl) (fun w16 F16 => ?_)
                  have r27 := row_keeps r26 F16
                  replace G := G.trans F16
                  clear r26 F16
                  have e26 : sortT (l.take (i + 1)) = T4 := by rw [HN.out.1, HT.out.2.2, hT3, hT4]
                  rw [← e26] at r27 ⊢
                  have r28 := row_more r27 FW.size
                  go_wp2
                  exact ⟨⟨i + 1, by omega, by go_num, r28, FW.trans G⟩, by simp [intOf]; omega⟩
                · obtain rfl := Option.some.inj ho
                  go_wp2_with fail
                  have F12 := (Fr.refl [] w10).alloc (.cells #[.int .i64 x.k, .int .i64 x.v, .int .i64 x.d] 43)
                  have B12 := Go.heap_alloc_new w10 (.cells #[.int .i64 x.k, .int .i64 x.v, .int .i64 x.d] 43)
                  replace G := G.trans F12
                  clear F12 ho
                  refine nx_normal ⟨G, ?_⟩
                  refine env_one 3 (by kernel_rfl) rfl rfl (fun w11 F11 => ?_)
                  have B13 := F11.heap B12 (by simp)
                  replace G := G.trans F11
                  clear B12 F11
                  have S1' := HS1.out.up G
                  go_wp2_with (at_builtin; refine wpList_appSq fT_lays rfl _ _ 22 rfl Tryd.underlying22 itI rfl (B := w5.heap.size) (.slice none 0 0) [] rfl ⟨rfl, .inl ⟨rfl, rfl⟩⟩ _ T1 rfl S1' (by have := HT.out; simp <;> omega) (by decide) G.size ?_; intro a21 c21 w21 r21 f21)
                  rw [List.nil_append] at r21
                  have B21 := Fr.heap f21 B13 (by simp [Value.ownBlock])
                  replace G := G.trans f21
                  clear f21 B13 S1'
                  refine nx_normal ⟨G, ?_⟩
                  refine env_one 9 (by kernel_rfl) rfl rfl (fun w13 F13 => ?_)
                  have r22 := row_keeps r21 F13
                  have B22 := F13.heap B21 (by simp)
                  replace G := G.trans F13
                  clear r21 B21 F13
                  go_wp2_with (at_builtin; refine wpList_appSq fT_lays rfl _ _ 22 rfl Tryd.underlying22 itI rfl (B := w5.heap.size) _ T1 rfl r22 _ [x] rfl (Sq.block B22 rfl rfl (Nat.le_refl _) (by simp [maxLen])) (by have := HT.out; simp <;> omega) (by decide) G.size ?_; intro a23 c23 w23 r23 f23; generalize hT3 : T1 ++ [x] = T3 at r23 ⊢)
                  replace G := G.own f23 (row_base r22)
                  clear f23 r22 B22
                  refine nx_normal ⟨G, ?_⟩
                  refine env_one 13 (by kernel_rfl) rfl rfl (fun w14 F14 => ?_)
                  have r24 := row_keeps r23 F14
                  replace G := G.trans F14
                  clear r23 F14
                  have S2' := HS2.out.up G
                  go_wp2_with (at_builtin; refine wpList_appSq fT_lays rfl _ _ 22 rfl Tryd.underlying22 itI rfl (B := w5.heap.size) _ T3 rfl r24 _ T2 rfl S2' (by have := HT.out; rw [← hT3]; simp <;> omega) (by decide) G.size ?_; intro a25 c25 w25 r25 f25; generalize hT4 : T3 ++ T2 = T4 at r25 ⊢)
                  replace G := G.own f25 (row_base r24)
                  clear f25 r24 S2'
                  refine nx_normal ⟨G, ?_⟩
                  refine env_one 14 (by kernel_rfl) rfl rfl (fun w15 F15 => ?_)
                  have r26 := row_keeps r25 F15
                  replace G := G.trans F15
                  clear r25 F15
                  go_wp2
                  refine nx_normal ⟨G, ?_⟩
                  refine env_done (by kernel_rfl) (fun w16 F16 => ?_)
                  have r27 := row_keeps r26 F16
                  replace G := G.trans F16
                  clear r26 F16
                  have e26 : sortT (l.take (i + 1)) = T4 := by rw [HN.out.1, HT.out.2.2, hT3, hT4]
                  rw [← e26] at r27 ⊢
                  have r28 := row_more r27 FW.size
                  go_wp2
                  exact ⟨⟨i + 1, by omega, by go_num, r28, FW.trans G⟩, by simp [intOf]; omega⟩
              · have hje : j + 1 = out.length := by omega
                go_wp2_with fail
                have FW := (F.trans F2).trans F5
                have HO5 := HO.up (F2.trans F5)
                have HL5 := Lib.hid (h.up FW)
                refine wp_region_env (by kernel_rfl) [] (fun w2 F2' => ?_)
                refine env_pass [true, true, true, false, true, true, true, true, false, false, true, true, true, false, false] 5 (n := 75) (listed' := #[true, true, true, false, true, true, true, true, false, false, true, true, true, false, false]) rfl (by kernel_rfl) (by kernel_rfl) (by kernel_rfl) rfl (by kernel_rfl) (fun _ _ d _ _ h => by cases d <;> exact h) F2' ?_
                apply Exists.intro
                refine ⟨fun wf Ff => ?_, ?_⟩
                · obtain ⟨gl', ol', hgl, x0, x1, x2⟩ := it_cells (HL5.out.up Ff) hx
                  simp only [Option.some.injEq, Addr.mk.injEq] at hgl
                  obtain ⟨rfl, rfl, -⟩ := hgl
                  have j0 := In.cell x0
                  have j1 := In.cell x1
                  have j2 := In.cell x2
                  clear x0 x1 x2
                  simp only [sel]
                  repeat (go_big_quiet_step (fail))
                  exact wpQuiet_nil rfl
                have hc2 : co - out.length ≤ maxLen := by omega
                generalize co - out.length = c2 at hc2 ⊢
                generalize (if co = out.length then some (⟨go, oo, none⟩ : Addr) else some (⟨go, oo + out.length * 3, none⟩ : Addr)) = a2
                have HS1 := Lib.hid (HO5)
                have HS2 := Lib.hid (Sq.empty (f := fT) w5 a2 hc2)
                have hend : posT out x out.length = out.length := by have := HP.out; rw [hje] at this; exact this
                obtain ⟨T1, hT1⟩ : ∃ T1, T1 = out := ⟨out, rfl⟩
                have HT := Lib.hid (show T1.length ≤ 1000 ∧ ([] : List It).length ≤ 1000 ∧ insT out x = T1 ++ [x] ++ [] from ⟨by rw [hT1]; have := HN.out; omega, by simp, by rw [hT1]; unfold insT; rw [hend, List.take_length, List.drop_length]⟩)
                have HS1 := Lib.hid (show Sq fT w5 (.slice (some ⟨go, oo, none⟩) T1.length co) T1 by rw [hT1]; exact HO5)
                rw [← hT1]
                have HT1 := Lib.hid hT1
                clear hT1 hend
                refine env_ready [3, 8] (by kernel_rfl) (by simp) (fun w10 F10 m hm o ho => ?_)
                have G := F2'.trans F10
                clear F10 F2'
                simp only [List.mem_cons, List.not_mem_nil, or_false] at hm
                rcases hm with rfl | rfl
                · obtain rfl := Option.some.inj ho
                  have S1' := HS1.out.up G
                  go_wp2_with (at_builtin; refine wpList_appSq fT_lays rfl _ _ 22 rfl Tryd.underlying22 itI rfl (B := w5.heap.size) (.slice none 0 0) [] rfl ⟨rfl, .inl ⟨rfl, rfl⟩⟩ _ T1 rfl S1' (by have := HT.out; simp <;> omega) (by decide) G.size ?_; intro a21 c21 w21 r21 f21)
                  rw [List.nil_append] at r21
                  replace G := G.trans f21
                  clear f21 S1'
                  refine nx_normal ⟨G, ?_⟩
                  refine env_one 8 (by kernel_rfl) rfl rfl (fun w11 F11 => ?_)
                  have r11 := row_keeps r21 F11
                  replace G := G.trans F11
                  clear r21 F11
                  go_wp2_with fail
                  have F12 := (Fr.refl [] w11).alloc (.cells #[.int .i64 x.k, .int .i64 x.v, .int .i64 x.d] 43)
                  have B21 := Go.heap_alloc_new w11 (.cells #[.int .i64 x.k, .int .i64 x.v, .int .i64 x.d] 43)
                  have r21 := row_keeps r11 F12
                  replace G := G.trans F12
                  clear r11 F12 ho
                  refine nx_normal ⟨G, ?_⟩
                  refine env_one 9 (by kernel_rfl) rfl rfl (fun w13 F13 => ?_)
                  have r22 := row_keeps r21 F13
                  have B22 := F13.heap B21 (by simp)
                  replace G := G.trans F13
                  clear r21 B21 F13
                  go_wp2_with (at_builtin; refine wpList_appSq fT_lays rfl _ _ 22 rfl Tryd.underlying22 itI rfl (B := w5.heap.size) _ T1 rfl r22 _ [x] rfl (Sq.block B22 rfl rfl (Nat.le_refl _) (by simp [maxLen])) (by have := HT.out; simp <;> omega) (by decide) G.size ?_; intro a23 c23 w23 r23 f23; generalize hT3 : T1 ++ [x] = T3 at r23 ⊢)
                  replace G := G.own f23 (row_base r22)
                  clear f23 r22 B22
                  refine nx_normal ⟨G, ?_⟩
                  refine env_one 13 (by kernel_rfl) rfl rfl (fun w14 F14 => ?_)
                  have r24 := row_keeps r23 F14
                  replace G := G.trans F14
                  clear r23 F14
                  have S2' := HS2.out.up G
                  go_wp2_with (at_builtin; refine wpList_appSq fT_lays rfl _ _ 22 rfl Tryd.underlying22 itI rfl (B := w5.heap.size) _ T3 rfl r24 _ ([] : List It) rfl S2' (by have := HT.out; rw [← hT3]; simp <;> omega) (by decide) G.size ?_; intro a25 c25 w25 r25 f25; generalize hT4 : T3 ++ ([] : List It) = T4 at r25 ⊢)
                  replace G := G.own f25 (row_base r24)
                  clear f25 r24 S2'
                  refine nx_normal ⟨G, ?_⟩
                  refine env_one 14 (by kernel_rfl) rfl rfl (fun w15 F15 => ?_)
                  have r26 := row_keeps r25 F15
                  replace G := G.trans F15
                  clear r25 F15
                  go_wp2
                  refine nx_normal ⟨G, ?_⟩
                  refine env_done (by kernel_rfl) (fun w16 F16 => ?_)
                  have r27 := row_keeps r26 F16
                  replace G := G.trans F16
                  clear r26 F16
                  have e26 : sortT (l.take (i + 1)) = T4 := by rw [HN.out.1, HT.out.2.2, hT3, hT4]
                  rw [← e26] at r27 ⊢
                  have r28 := row_more r27 FW.size
                  go_wp2
                  exact ⟨⟨i + 1, by omega, by go_num, r28, FW.trans G⟩, by simp [intOf]; omega⟩
                · obtain rfl := Option.some.inj ho
                  go_wp2_with fail
                  have F12 := (Fr.refl [] w10).alloc (.cells #[.int .i64 x.k, .int .i64 x.v, .int .i64 x.d] 43)
                  have B12 := Go.heap_alloc_new w10 (.cells #[.int .i64 x.k, .int .i64 x.v, .int .i64 x.d] 43)
                  replace G := G.trans F12
                  clear F12 ho
                  refine nx_normal ⟨G, ?_⟩
                  refine env_one 3 (by kernel_rfl) rfl rfl (fun w11 F11 => ?_)
                  have B13 := F11.heap B12 (by simp)
                  replace G := G.trans F11
                  clear B12 F11
                  have S1' := HS1.out.up G
                  go_wp2_with (at_builtin; refine wpList_appSq fT_lays rfl _ _ 22 rfl Tryd.underlying22 itI rfl (B := w5.heap.size) (.slice none 0 0) [] rfl ⟨rfl, .inl ⟨rfl, rfl⟩⟩ _ T1 rfl S1' (by have := HT.out; simp <;> omega) (by decide) G.size ?_; intro a21 c21 w21 r21 f21)
                  rw [List.nil_append] at r21
                  have B21 := Fr.heap f21 B13 (by simp [Value.ownBlock])
                  replace G := G.trans f21
                  clear f21 B13 S1'
                  refine nx_normal ⟨G, ?_⟩
                  refine env_one 9 (by kernel_rfl) rfl rfl (fun w13 F13 => ?_)
                  have r22 := row_keeps r21 F13
                  have B22 := F13.heap B21 (by simp)
                  replace G := G.trans F13
                  clear r21 B21 F13
                  go_wp2_with (at_builtin; refine wpList_appSq fT_lays rfl _ _ 22 rfl Tryd.underlying22 itI rfl (B := w5.heap.size) _ T1 rfl r22 _ [x] rfl (Sq.block B22 rfl rfl (Nat.le_refl _) (by simp [maxLen])) (by have := HT.out; simp <;> omega) (by decide) G.size ?_; intro a23 c23 w23 r23 f23; generalize hT3 : T1 ++ [x] = T3 at r23 ⊢)
                  replace G := G.own f23 (row_base r22)
                  clear f23 r22 B22
                  refine nx_normal ⟨G, ?_⟩
                  refine env_one 13 (by kernel_rfl) rfl rfl (fun w14 F14 => ?_)
                  have r24 := row_keeps r23 F14
                  replace G := G.trans F14
                  clear r23 F14
                  have S2' := HS2.out.up G
                  go_wp2_with (at_builtin; refine wpList_appSq fT_lays rfl _ _ 22 rfl Tryd.underlying22 itI rfl (B := w5.heap.size) _ T3 rfl r24 _ ([] : List It) rfl S2' (by have := HT.out; rw [← hT3]; simp <;> omega) (by decide) G.size ?_; intro a25 c25 w25 r25 f25; generalize hT4 : T3 ++ ([] : List It) = T4 at r25 ⊢)
                  replace G := G.own f25 (row_base r24)
                  clear f25 r24 S2'
                  refine nx_normal ⟨G, ?_⟩
                  refine env_one 14 (by kernel_rfl) rfl rfl (fun w15 F15 => ?_)
                  have r26 := row_keeps r25 F15
                  replace G := G.trans F15
                  clear r25 F15
                  go_wp2
                  refine nx_normal ⟨G, ?_⟩
                  refine env_done (by kernel_rfl) (fun w16 F16 => ?_)
                  have r27 := row_keeps r26 F16
                  replace G := G.trans F16
                  clear r26 F16
                  have e26 : sortT (l.take (i + 1)) = T4 := by rw [HN.out.1, HT.out.2.2, hT3, hT4]
                  rw [← e26] at r27 ⊢
                  have r28 := row_more r27 FW.size
                  go_wp2
                  exact ⟨⟨i + 1, by omega, by go_num, r28, FW.trans G⟩, by simp [intOf]; omega⟩
    · obtain rfl : i = l.length := by omega
      rw [List.take_length] at hr
      have HR := Lib.hid hr
      obtain ⟨ao, co, rfl, -, -⟩ := row_cell hr
      go_wp2_with fail
      go_ret
      exact ⟨⟨_, rfl, HR.out⟩, F⟩
end Go.Proofs.YtdnilnjlbobcmaaDoor.Mx
