/- Texts that this proof leans on, one behind the other: Feeds. -/
import Derived.Test.YtjhefbenmhmbcaaDoorQaz
import Derived.RangeFuncBound
import Derived.Shelf.SlSortCmp.WholeK
import Derived.Test.YtjhefbenmhmbcaaDoorIter8
set_option linter.unusedVariables false
set_option linter.unusedSimpArgs false
set_option maxRecDepth 100000
set_option maxHeartbeats 12800000
namespace Go.Proofs.YtjhefbenmhmbcaaDoor.Kp
open Go.RowKit Go.Shelf Go.Lib Go.Sort Go.Maps Go.Proofs.YtjhefbenmhmbcaaDoor.Ar Go.Proofs.YtjhefbenmhmbcaaDoor.Mx
def Feeds {α:Type} (n:Nat) (P:Program) (g:Nat) (lb:Array Value) (enc:α→Value) (S:List α→Prop) (N:Nat) (w:World):Prop :=
 ∀ (l:Nat) (J:List α→World→Prop) (W:World),Below w.heap.size w W→AbidesFrom W.heap.size J→(∀ xs W1,J xs W1→Below w.heap.size w W1) →
  (∀ pre x W1,J pre W1→pre.length<N→YieldAt Fence.wide (n - 1) P l #[enc x] W1 fun e W'=>e = .returned (.bool true)∧J (pre++[x]) W'∧KeepsWalks W1 W') →
  J [] W →
  CallsIn Fence.wide n P g (#[.func (.yield l) #[] #[]]++lb) W fun e W'=>(∃ v,e = .returned v)∧∃ xs,S xs∧J xs W'
theorem cells_new (w:World) (vs:Array Value) (T:TypeId):∀ (j:Nat) (u:Value),vs.toList[j]? = some u→(w.alloc (.cells vs T)).cell? ((⟨w.heap.size,0,none⟩:Addr).add j)=some u:=by
 intro j u h
 rw [addr_add,Nat.zero_add]
 unfold World.cell?
 rw [Go.heap_alloc_new]
 simpa using h
end Go.Proofs.YtjhefbenmhmbcaaDoor.Kp
