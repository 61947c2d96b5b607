/- Texts that this proof leans on, one behind the other: VMap. -/
import Derived.Test.YtjhefbenmhmbcaaDoorQaa
import Derived.Maps.OwnSet
set_option linter.unusedVariables false
set_option linter.unusedSimpArgs false
set_option maxRecDepth 100000
set_option maxHeartbeats 12800000
namespace Go.Proofs.YtjhefbenmhmbcaaDoor.Ar
open Go.RowKit Go.Maps
def asIs (v:Value):Option (DataW Value×List MemPlace):=some (.held v,[])
def ik (k:Nat):Lit:=.int .i64 k
theorem intKeyV:Keyed Tryd.prog 3:=int_keyed Tryd.underlying3
def cnt (D:DataW Value):Nat→Nat
 | 0=>0
 | n+1=>cnt D n+if has D (ik n) then 1 else 0
theorem fr_grown_some {w w':World} {b:Nat} (h:w.grownBy w' (some b)):Fr [b] w w':=⟨h.os,h.tape,h.output,h.size,fun k hk hn=>h.block k hk (fun e=>hn (by cases e;simp))⟩
end Go.Proofs.YtjhefbenmhmbcaaDoor.Ar
