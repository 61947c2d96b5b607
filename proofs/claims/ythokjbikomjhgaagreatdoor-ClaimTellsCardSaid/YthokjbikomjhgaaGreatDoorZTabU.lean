/- What a frame keeps of package word's bounds. -/
import Derived.Test.YthokjbikomjhgaaGreatDoorVaf
import Derived.Test.YthokjbikomjhgaaGreatDoorVaa
namespace Go.Proofs.YthokjbikomjhgaaGreatDoor.Gq_u
open Go.RowKit Ar Mx
set_option linter.unusedVariables false
set_option linter.unusedSimpArgs false
theorem tab_kept {S:List Nat} {w w':World} (t:Word.Tab w) (f:Fr S w w') (h:2∉S):Word.Tab w':=by
 obtain ⟨t0,t1,t2,t3,t4,t5,t6,t7,t8,t9,t10,t11⟩:=t
 exact ⟨f.cell t0 h,f.cell t1 h,f.cell t2 h,f.cell t3 h,f.cell t4 h,f.cell t5 h,f.cell t6 h,f.cell t7 h,f.cell t8 h,f.cell t9 h,f.cell t10 h,f.cell t11 h⟩
theorem tab_up {w w':World} (t:Word.Tab w) (f:Fr [] w w'):Word.Tab w':=tab_kept t f (by simp)
theorem tab_lt {w:World} (t:Word.Tab w):2<w.heap.size:=World.block_lt_of_cell? w _ t.1
theorem fr_dr {w w':World} (h:Word.Dr w w'):Fr [] w w':=by obtain ⟨m,rfl⟩:=h;exact (Fr.refl [] w).drewN m
theorem stateI_eq (v:Int):Word.qd5 v=vz v:=by unfold Word.qd5 Word.Qa vz hd;split <;> split <;> omega
theorem state9 (v:Int) (w:World) (t:Word.Tab w):Calls Tryz.prog 160 #[.int .i64 v] w fun e w'=>e = .returned (.int .i64 (vz v))∧Fr [] w w' :=
 (Word.Qu v w t).mono fun e w' ⟨h,d⟩=>⟨by rw [h,stateI_eq],fr_dr d⟩
end Go.Proofs.YthokjbikomjhgaaGreatDoor.Gq_u
