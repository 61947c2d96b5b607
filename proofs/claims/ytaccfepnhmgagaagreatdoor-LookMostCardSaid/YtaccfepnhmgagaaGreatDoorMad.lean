/- Parts. -/
import Derived.Test.YtaccfepnhmgagaaGreatDoorMac
set_option linter.unusedVariables false
set_option linter.unusedSimpArgs false
set_option maxRecDepth 100000
namespace Go.Proofs.YtaccfepnhmgagaaGreatDoor.Lm_u
open Go.RowKit Go.Proofs.YtaccfepnhmgagaaGreatDoor.Ar Go.Proofs.YtaccfepnhmgagaaGreatDoor.Og Go.Proofs.YtaccfepnhmgagaaGreatDoor.Ref Go.Proofs.YtaccfepnhmgagaaGreatDoor.Mx Go.Proofs.YtaccfepnhmgagaaGreatDoor.Wd
set_option linter.unusedVariables false
set_option maxRecDepth 100000 in
theorem most_open {H:Type} {enc:TypeId×Value→H} {r:Reach} {b0:Nat} {d:DataW H} {p:List MemPlace} {s:Value} (k a1 b1 key:Int) (W:World) (t0:Word.Tab W) (hs:Value.okWide Tryz.prog W r b0 27 s) (h:DataW.Trod enc Tryz.prog W 0 (fun _=>true) true 27 s d p) (hk:0≤k∧k≤255) (ha:0≤a1∧a1≤255) (hb:0≤b1∧b1≤255) (hy:0≤key∧key≤255) :
  Calls Tryz.prog 5 #[s,.int .u8 k,.int .u8 a1,.int .u8 b1,.int .u8 key] W fun e w'=>e = .returned (.bool true)∧Fr [] W w':=by
 obtain ⟨t,c,wd,vv,vo,vp,vd,rs,ss,ps,ds,rfl,k1,k2,k3,k4,k5⟩:=Op10.open_scr hs h
 exact most_any ⟨t,c,wd,vv⟩ rs ps ds vo vp vd ss (List.range W.heap.size) k a1 b1 key hk ha hb hy W t0 (scr_in (c:=⟨t,c,wd,vv⟩) k1 k2 k3 k4 k5)
end Go.Proofs.YtaccfepnhmgagaaGreatDoor.Lm_u
