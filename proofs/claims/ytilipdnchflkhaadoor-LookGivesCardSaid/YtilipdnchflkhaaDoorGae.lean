/- Texts that this proof leans on, one behind the other: Item. -/
import Derived.Test.YtilipdnchflkhaaDoorGaa
import Derived.Test.YtilipdnchflkhaaDoorGad
set_option linter.unusedVariables false
set_option linter.unusedSimpArgs false
set_option maxRecDepth 100000
set_option maxHeartbeats 12800000
namespace Go.Proofs.YtilipdnchflkhaaDoor.Mx
open Go.RowKit Go.Proofs.YtilipdnchflkhaaDoor.Ar
structure It where
 k:Int
 v:Int
 d:Int
deriving DecidableEq
def fT (x:It):List Value:=[.int .i64 x.k,.int .i64 x.v,.int .i64 x.d]
theorem fT_lays:Lays fT 3:=⟨fun _=>rfl,fun x u hu=>by simp [fT] at hu;rcases hu with rfl | rfl | rfl <;> rfl,by decide⟩
theorem itI:(Tryd.prog.info? 45).map (fun i=>(i.zero,i.size,i.bytes))=some (some (.agg #[.int .i64 0,.int .i64 0,.int .i64 0]),3,24):=by kernel_rfl
end Go.Proofs.YtilipdnchflkhaaDoor.Mx
