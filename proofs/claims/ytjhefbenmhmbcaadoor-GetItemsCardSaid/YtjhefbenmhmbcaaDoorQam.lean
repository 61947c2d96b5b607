/- Texts that this proof leans on, one behind the other: Chain2, Chain7. -/
import Derived.Test.YtjhefbenmhmbcaaDoorQal
import Derived.Carry
set_option linter.unusedVariables false
set_option linter.unusedSimpArgs false
set_option maxRecDepth 100000
set_option maxHeartbeats 12800000
namespace Go.Proofs.YtjhefbenmhmbcaaDoor.Ch
open Go.RowKit Go.Proofs.YtjhefbenmhmbcaaDoor.Ar Go.Proofs.YtjhefbenmhmbcaaDoor.Mx Go.Proofs.YtjhefbenmhmbcaaDoor.Vw
theorem at_any (a:Int) (w:World):Calls Tryd.prog 45 #[.int .i64 a] w fun e w'=>e = .returned (.int .i64 (atU a))∧w=w' :=
 (Word.at_any a w).mono (by rintro e w' ⟨rfl,rfl⟩;exact ⟨rfl,rfl⟩)
def itV (x:It):Value:=.agg #[.int .i64 x.k,.int .i64 x.v,.int .i64 x.d]
def zeroItV:Value:=.agg #[.int .i64 0,.int .i64 0,.int .i64 0]
theorem zeroIt (W:World):(zeroValue 26).run Tryd.prog W = .ok zeroItV W:=by kernel_rfl
def mapG (g:Int→Option It) (k:Int):Option Value:=(g k).map itV
end Go.Proofs.YtjhefbenmhmbcaaDoor.Ch
