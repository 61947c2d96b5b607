/- An object that lies within another one's cells: cells of its own from a place on, others ahead and behind. -/
import Derived.Test.YtfchbbhopfganaaOb
namespace Go.Proofs.Ytfchbbhopfganaa.Mx
open Go.RowKit Go.Proofs.Ytfchbbhopfganaa.Ar Go.Proofs.Ytfchbbhopfganaa.Ref
set_option linter.unusedVariables false
/-- Block b holds just these: some cells, the object's own, some others. -/
def Pb (w : World) (b : Nat) (T : TypeId) (pre post cs : Array Value) : Prop := Ob w b T (pre ++ cs ++ post)
theorem Pb.lt {w : World} {b : Nat} {T : TypeId} {pre post cs : Array Value} (h : Pb w b T pre post cs) : b < w.heap.size := Ob.lt h
theorem Pb.kept {S : List Nat} {w w' : World} {b : Nat} {T : TypeId} {pre post cs : Array Value} (h : Pb w b T pre post cs) (f : Fr S w w') (hb : b ∉ S) : Pb w' b T pre post cs := Ob.kept h f hb
theorem Pb.up {w w' : World} {b : Nat} {T : TypeId} {pre post cs : Array Value} (h : Pb w b T pre post cs) (f : Fr [] w w') : Pb w' b T pre post cs := Ob.up h f
theorem Pb.frozen {w : World} {b : Nat} {T : TypeId} {pre post cs : Array Value} (h : Pb w b T pre post cs) (i : Nat) : w.frozen? ⟨b, i, none⟩ = false := Ob.frozen h i
theorem Pb.cell {w : World} {b : Nat} {T : TypeId} {pre post cs : Array Value} (h : Pb w b T pre post cs) {o : Nat} (ho : pre.size = o) {i : Nat} {v : Value} (hv : cs[i]? = some v) : w.cell? ⟨b, o + i, none⟩ = some v := by
  subst ho
  have hi := (Array.getElem?_eq_some_iff.1 hv).1
  refine Ob.cell h ?_
  rw [Array.getElem?_append_left (by simp; omega), Array.getElem?_append_right (by omega), show pre.size + i - pre.size = i by omega]
  exact hv
theorem Pb.set {w : World} {b : Nat} {T : TypeId} {pre post cs : Array Value} (h : Pb w b T pre post cs) {o : Nat} (ho : pre.size = o) {i : Nat} (hi : i < cs.size) (v : Value) : Pb (w.setCell ⟨b, o + i, none⟩ v) b T pre post (cs.setIfInBounds i v) := by
  subst ho
  have := Ob.set (i := pre.size + i) h v
  unfold Pb
  have e : (pre ++ cs ++ post).setIfInBounds (pre.size + i) v = pre ++ cs.setIfInBounds i v ++ post := by
    apply Array.ext'
    simp only [Array.toList_setIfInBounds, Array.toList_append]
    have h1 : pre.toList.length = pre.size := by simp
    have h2 : cs.toList.length = cs.size := by simp
    rw [List.append_assoc, List.append_assoc, List.set_append_right _ _ (by omega), h1, show pre.size + i - pre.size = i by omega, List.set_append_left _ _ (by omega)]
  rw [← e]; exact this
end Go.Proofs.Ytfchbbhopfganaa.Mx
