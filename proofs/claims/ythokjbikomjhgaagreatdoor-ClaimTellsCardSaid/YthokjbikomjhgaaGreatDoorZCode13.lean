/- Layer 13's code of an error. -/
import Derived.Test.YthokjbikomjhgaaGreatDoorZAsHit
import Derived.Test.YthokjbikomjhgaaGreatDoorVaa
namespace Go.Proofs.YthokjbikomjhgaaGreatDoor.Kc_u
open Go.RowKit Ar
theorem code_nil (w:World):Calls Tryz.prog 65 #[.nilIface] w fun e w'=>e = .returned (.int .i64 0)∧Fr [] w w':=by
 have isE:=Er.isE
 go_enter Tryz.func65,Tryz.ntmps65
 go_wp2
 go_ret
 exact ⟨rfl,(Fr.refl _ _).alloc _⟩
theorem code_some (n:Int) (w:World) (h:Er.ErrType w):Calls Tryz.prog 65 #[.iface 184 (.int .i64 n)] w fun e w'=>e = .returned (.int .i64 n)∧Fr [] w w':=by
 have isE:=Er.isE
 have h1:Er.ErrType (w.alloc (.cells #[.int .i64 0] 184)):=h.kept ((Fr.refl [] w).alloc _) (by simp)
 go_enter Tryz.func65,Tryz.ntmps65
 go_wp2_with fail
 refine (Er.as_hit n w.heap.size (.int .i64 0) _ h1 (Go.heap_alloc_new w _)).mono ?_;rintro e w1 ⟨rfl,hc,F⟩
 have G:=((Fr.refl [] w).alloc _).own F (by simp)
 clear F h1
 go_wp2
 go_ret
 exact ⟨rfl,G⟩
theorem code_errv (n:Int) (w:World) (h:Er.ErrType w):Calls Tryz.prog 65 #[Pl.qct n] w fun e w'=>e = .returned (.int .i64 n)∧Fr [] w w':=by
 unfold Pl.qct
 split
 ·rename_i h0;subst h0;exact code_nil w
 ·exact code_some n w h
end Go.Proofs.YthokjbikomjhgaaGreatDoor.Kc_u
