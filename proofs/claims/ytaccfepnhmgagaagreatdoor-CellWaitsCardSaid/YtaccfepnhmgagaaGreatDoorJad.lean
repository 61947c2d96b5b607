/- Parts. -/
import Derived.Test.YtaccfepnhmgagaaGreatDoorJac
import Derived.Test.YtaccfepnhmgagaaGreatDoorVal
set_option linter.unusedVariables false
set_option linter.unusedSimpArgs false
set_option maxRecDepth 100000
namespace Go.Proofs.YtaccfepnhmgagaaGreatDoor.Cc_u
open Go.RowKit Go.Proofs.YtaccfepnhmgagaaGreatDoor.Ar Go.Proofs.YtaccfepnhmgagaaGreatDoor.Og Go.Proofs.YtaccfepnhmgagaaGreatDoor.Ref Go.Proofs.YtaccfepnhmgagaaGreatDoor.Mx Go.Proofs.YtaccfepnhmgagaaGreatDoor.Wd
set_option linter.unusedVariables false
set_option maxRecDepth 100000 in
theorem waits15_open {H:Type} {enc:TypeId×Value→H} {r:Reach} {b0:Nat} {d:DataW H} {p:List MemPlace} {s:Value} (k ky:Int) (lv:Value) (zs:List Int) (W:World) (t0:Word.Tab W) (hs:Value.okWide Tryz.prog W r b0 27 s) (h:DataW.Trod enc Tryz.prog W 0 (fun _=>true) true 27 s d p) (hk:0≤k∧k≤255) (hky:0≤ky∧ky≤255)
  (hI:Law.Ints W .u8 lv zs) :
  Calls Tryz.prog 4 #[s,.int .u8 k,.int .u8 ky,lv] W fun e w'=>e = .returned (.bool true)∧Fr [] W w':=by
 obtain ⟨t,c,wd,vv,vo,vp,vd,rs,ss,ps,ds,rfl,k1,k2,k3,k4,k5⟩:=Op10.open_scr hs h;exact waits15 ⟨t,c,wd,vv⟩ rs ps ds vo vp vd ss (List.range W.heap.size) k ky lv zs hk hky W t0 hI (scr_in (c:=⟨t,c,wd,vv⟩) k1 k2 k3 k4 k5)
end Go.Proofs.YtaccfepnhmgagaaGreatDoor.Cc_u
