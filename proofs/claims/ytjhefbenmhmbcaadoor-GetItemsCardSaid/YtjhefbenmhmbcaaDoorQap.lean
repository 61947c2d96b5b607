/- Texts that this proof leans on, one behind the other: Fill9. -/
import Derived.Test.YtjhefbenmhmbcaaDoorQaa
import Derived.Test.YtjhefbenmhmbcaaDoorQab
import Derived.Test.YtjhefbenmhmbcaaDoorQac
import Derived.Test.YtjhefbenmhmbcaaDoorQae
import Derived.Test.YtjhefbenmhmbcaaDoorQag
import Derived.Test.YtjhefbenmhmbcaaDoorQaj
import Derived.DeepKeys4
import Derived.Laws.OwnMore
import Derived.Lib.MinMax
import Derived.WideKeyPair
set_option linter.unusedVariables false
set_option linter.unusedSimpArgs false
set_option maxRecDepth 100000
set_option maxHeartbeats 12800000
namespace Go.Proofs.YtjhefbenmhmbcaaDoor.Gp
open Go.RowKit Go.Maps Go.Proofs.YtjhefbenmhmbcaaDoor.Ar Go.Proofs.YtjhefbenmhmbcaaDoor.Mx
theorem tab_kept {S:List Nat} {w w':World} (t:Word.Tab w) (f:Fr S w w') (h:1∉S):Word.Tab w':=by
 obtain ⟨t0,t1,t2,t3,t4,t5,t6,t7,t8,t9,t10,t11⟩:=t
 exact ⟨f.cell t0 h,f.cell t1 h,f.cell t2 h,f.cell t3 h,f.cell t4 h,f.cell t5 h,f.cell t6 h,f.cell t7 h,f.cell t8 h,f.cell t9 h,f.cell t10 h,f.cell t11 h⟩
theorem tab_up {w w':World} (t:Word.Tab w) (f:Fr [] w w'):Word.Tab w':=tab_kept t f (by simp)
theorem fr_dr {w w':World} (h:Word.Dr w w'):Fr [] w w':=by obtain ⟨m,rfl⟩:=h;exact (Fr.refl [] w).drewN m
theorem stateI_eq (v:Int):Word.stateI v=stateW v:=by unfold Word.stateI Word.heldI stateW hd;split <;> split <;> omega
theorem state9 (v:Int) (w:World) (t:Word.Tab w):Calls Tryd.prog 53 #[.int .i64 v] w fun e w'=>e = .returned (.int .i64 (stateW v))∧Fr [] w w' :=
 (Word.state_any v w t).mono fun e w' ⟨h,d⟩=>⟨by rw [h,stateI_eq],fr_dr d⟩
end Go.Proofs.YtjhefbenmhmbcaaDoor.Gp
