/- What an iterator value is asked for by one who collects: its rounds keep what lay ahead of it. -/
import Derived.Test.YteahponbknljlaaRot
import Derived.RangeFuncBound
namespace Go.Proofs.Yteahponbknljlaa.Kp
open Go.RowKit Go.Shelf Go.Lib Go.Sort Go.Maps Go.Proofs.Yteahponbknljlaa.Ar Go.Proofs.Yteahponbknljlaa.Mx
/-- As SeqGives, of one who keeps all that lay in w. -/
def Feeds {α : Type} (n : Nat) (P : Program) (g : Nat) (lb : Array Value) (enc : α → Value) (S : List α → Prop) (N : Nat) (w : World) : Prop :=
  ∀ (l : Nat) (J : List α → World → Prop) (W : World), Below w.heap.size w W → AbidesFrom W.heap.size J → (∀ xs W1, J xs W1 → Below w.heap.size w W1) →
    (∀ pre x W1, J pre W1 → pre.length < N → YieldAt Fence.wide (n - 1) P l #[enc x] W1 fun e W' => e = .returned (.bool true) ∧ J (pre ++ [x]) W' ∧ KeepsWalks W1 W') →
    J [] W →
    CallsIn Fence.wide n P g (#[.func (.yield l) #[] #[]] ++ lb) W fun e W' => (∃ v, e = .returned v) ∧ ∃ xs, S xs ∧ J xs W'
theorem cells_new (w : World) (vs : Array Value) (T : TypeId) : ∀ (j : Nat) (u : Value), vs.toList[j]? = some u → (w.alloc (.cells vs T)).cell? ((⟨w.heap.size, 0, none⟩ : Addr).add j) = some u := by
  intro j u h
  rw [addr_add, Nat.zero_add]
  unfold World.cell?
  rw [Go.heap_alloc_new]
  simpa using h
end Go.Proofs.Yteahponbknljlaa.Kp
