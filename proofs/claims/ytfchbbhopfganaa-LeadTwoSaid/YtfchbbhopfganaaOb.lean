/- Objects that a call of ours made: what their cells hold, behind stores, calls, new blocks. -/
import Derived.Test.YtfchbbhopfganaaW1
namespace Go.Proofs.Ytfchbbhopfganaa.Mx
open Go.RowKit Go.Proofs.Ytfchbbhopfganaa.Ar Go.Proofs.Ytfchbbhopfganaa.Ref
set_option linter.unusedVariables false
/-- Block b holds just these cells. -/
def Ob (w : World) (b : Nat) (T : TypeId) (cs : Array Value) : Prop := w.heap[b]? = some (.cells cs T (0, 0))
theorem Ob.lt {w : World} {b : Nat} {T : TypeId} {cs : Array Value} (h : Ob w b T cs) : b < w.heap.size := (Array.getElem?_eq_some_iff.1 h).1
theorem Ob.kept {S : List Nat} {w w' : World} {b : Nat} {T : TypeId} {cs : Array Value} (h : Ob w b T cs) (f : Fr S w w') (hb : b ∉ S) : Ob w' b T cs := f.heap h hb
theorem Ob.up {w w' : World} {b : Nat} {T : TypeId} {cs : Array Value} (h : Ob w b T cs) (f : Fr [] w w') : Ob w' b T cs := f.heap h (by simp)
theorem Ob.set {w : World} {b i : Nat} {T : TypeId} {cs : Array Value} (h : Ob w b T cs) (v : Value) : Ob (w.setCell ⟨b, i, none⟩ v) b T (cs.setIfInBounds i v) := heap_setCell_same _ b i _ _ v h
theorem Ob.other {w : World} {b b' i : Nat} {T : TypeId} {cs : Array Value} (h : Ob w b T cs) (hb : b ≠ b') (v : Value) : Ob (w.setCell ⟨b', i, none⟩ v) b T cs := by
  unfold Ob; rw [heap_setCell_other _ _ _ _ hb]; exact h
theorem Ob.new (w : World) (T : TypeId) (cs : Array Value) : Ob (w.alloc (.cells cs T (0, 0))) w.heap.size T cs := Go.heap_alloc_new w _
theorem sizeA (w : World) (o : Obj) : (w.alloc o).heap.size = w.heap.size + 1 := by unfold World.alloc; simp
theorem Ob.newAt {w : World} {n : Nat} (hs : w.heap.size = n) (T : TypeId) (cs : Array Value) : Ob (w.alloc (.cells cs T (0, 0))) n T cs := by subst hs; exact Ob.new w T cs
theorem Ob.alloc {w : World} {b : Nat} {T : TypeId} {cs : Array Value} (h : Ob w b T cs) (o : Obj) : Ob (w.alloc o) b T cs := h.up ((Fr.refl [] w).alloc o)
theorem Ob.cell {w : World} {b : Nat} {T : TypeId} {cs : Array Value} (h : Ob w b T cs) {i : Nat} {v : Value} (hv : cs[i]? = some v) : w.cell? ⟨b, i, none⟩ = some v := by
  rw [cell_of_row _ _ _ _ _ _ h]; exact hv
theorem Ob.frozen {w : World} {b : Nat} {T : TypeId} {cs : Array Value} (h : Ob w b T cs) (i : Nat) : w.frozen? ⟨b, i, none⟩ = false := frozen_of_row _ _ _ _ _ h
theorem Ob.ne {w : World} {b b' : Nat} {T T' : TypeId} {cs cs' : Array Value} (h : Ob w b T cs) (k : Ob w b' T' cs') (hT : T ≠ T') : b ≠ b' := by
  rintro rfl
  unfold Ob at h k
  rw [h] at k
  simp only [Option.some.injEq, Obj.cells.injEq] at k
  exact hT k.2.1
theorem Fr.set1 {S : List Nat} {w w' : World} (h : Fr S w w') {b i : Nat} (v : Value) (hb : b ∈ S) : Fr S w (w'.setCell ⟨b, i, none⟩ v) := h.setCell' v hb
theorem frSub {S T : List Nat} {w w' w'' : World} (h : Fr S w w') (k : Fr T w' w'') (hT : ∀ i, i ∈ T → i ∈ S) : Fr S w w'' := h.trans (k.mono hT)
/-- A configuration, as a value and as cells. -/
structure Cf where
  t : Int
  c : Int
  wd : Int
  v : Int
def Cf.val (c : Cf) : Value := .agg #[.int .i64 c.t, .int .i64 c.c, .int .i64 c.wd, .int .i64 c.v]
structure Cf.Ok (c : Cf) : Prop where
  t1 : 1 ≤ c.t
  t8 : c.t ≤ 8
  c2 : c.t + 2 ≤ c.c
  c16 : c.c ≤ 16
  w1 : 1 ≤ c.wd
  w2 : c.wd ≤ 20000
  v1 : 1 ≤ c.v
  v2 : c.v ≤ 1048576
  top : 21 + c.t + 3 * c.c ≤ c.wd
def sizeP (c : Cf) : Int := 7 + 3 * c.c
def psaP (t : Int) : Int := 3 + t
def hintP (c : Cf) (k : Int) : Int := 3 + c.t + k / 16
def headP (c : Cf) : Int := 7 + c.t
def firstP (c : Cf) : Int := 14 + c.t
def topP (c : Cf) : Int := 21 + c.t + 3 * c.c
def stAt (a i : Int) : Int := wrap64 (a + 7 + 3 * i)
theorem w64w (a b : Int) : wrap64 (wrap64 a + wrap64 b) = wrap64 (a + b) := by unfold wrap64; omega
theorem w64l (a b : Int) : wrap64 (wrap64 a + b) = wrap64 (a + b) := by unfold wrap64; omega
theorem w64r (a b : Int) : wrap64 (a + wrap64 b) = wrap64 (a + b) := by unfold wrap64; omega
theorem w64i (a : Int) : wrap64 (wrap64 a) = wrap64 a := by unfold wrap64; omega
end Go.Proofs.Ytfchbbhopfganaa.Mx
