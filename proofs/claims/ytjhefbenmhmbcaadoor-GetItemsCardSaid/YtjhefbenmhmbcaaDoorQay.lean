/- Texts that this proof leans on, one behind the other: Cmp. -/
import Derived.Test.YtjhefbenmhmbcaaDoorQaw
import Derived.Test.YtjhefbenmhmbcaaDoorQax
import Derived.Test.YtjhefbenmhmbcaaDoorChecked
set_option linter.unusedVariables false
set_option linter.unusedSimpArgs false
set_option maxRecDepth 100000
set_option maxHeartbeats 12800000
namespace Go.Proofs.YtjhefbenmhmbcaaDoor.Kp
open Go.RowKit Go.Proofs.YtjhefbenmhmbcaaDoor.Mx
def cfZ (x y:Int):Int:=if x<y then -1 else if y<x then 1 else 0
theorem isNaN_any (x:Int) (w:World):Calls Tryd.prog 60 #[.int .i64 x] w fun e w'=>e = .returned (.bool false)∧w'=w:=by
 go_enter Tryd.func60,Tryd.ntmps60
 go_wp2_with fail
 go_ret
 exact ⟨by simp,rfl⟩
theorem cmp_any (x y:Int) (w:World):Calls Tryd.prog 40 #[.int .i64 x,.int .i64 y] w fun e w'=>e = .returned (.int .i64 (cfZ x y))∧w'=w:=by
 go_enter Tryd.func40,Tryd.ntmps40
 unfold cfZ
 by_cases h1:x<y
 ·go_wp2_with (go_at_call 60;refine (isNaN_any _ _).mono ?_;rintro e w' ⟨rfl,rfl⟩)
  go_ret
  exact ⟨by simp [h1],rfl⟩
 ·by_cases h2:y<x
  ·go_wp2_with (go_at_call 60;refine (isNaN_any _ _).mono ?_;rintro e w' ⟨rfl,rfl⟩)
   go_ret
   exact ⟨by simp [h1,h2],rfl⟩
  ·go_wp2_with (go_at_call 60;refine (isNaN_any _ _).mono ?_;rintro e w' ⟨rfl,rfl⟩)
   go_ret
   exact ⟨by simp [h1,h2],rfl⟩
end Go.Proofs.YtjhefbenmhmbcaaDoor.Kp
