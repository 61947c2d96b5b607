/- Texts that this proof leans on, one behind the other: VMap. -/
import Derived.Test.YtofanejchncepaaDoorQaa
import Derived.Maps.OwnSet
set_option linter.unusedVariables false
set_option linter.unusedSimpArgs false
set_option maxRecDepth 100000
set_option maxHeartbeats 12800000
namespace Go.Proofs.YtofanejchncepaaDoor.Ar
open Go.RowKit Go.Maps
def ik (k:Nat):Lit:=.int .i64 k
def cnt (D:DataW Value):Nat→Nat
 | 0=>0
 | n+1=>cnt D n+if has D (ik n) then 1 else 0
end Go.Proofs.YtofanejchncepaaDoor.Ar
