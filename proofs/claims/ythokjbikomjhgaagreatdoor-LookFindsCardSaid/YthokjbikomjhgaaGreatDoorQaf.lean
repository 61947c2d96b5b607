/- Parts. -/
import Derived.Test.YthokjbikomjhgaaGreatDoorQae
set_option linter.unusedVariables false
set_option linter.unusedSimpArgs false
set_option maxRecDepth 100000
namespace Go.Proofs.YthokjbikomjhgaaGreatDoor.Lf_u
open Go.RowKit Go.Proofs.YthokjbikomjhgaaGreatDoor.Ar Go.Proofs.YthokjbikomjhgaaGreatDoor.Og Go.Proofs.YthokjbikomjhgaaGreatDoor.Ref Go.Proofs.YthokjbikomjhgaaGreatDoor.Mx Go.Proofs.YthokjbikomjhgaaGreatDoor.Wd
set_option linter.unusedVariables false
set_option maxRecDepth 100000 in
theorem finds_open {H:Type} {enc:TypeId×Value→H} {r:Reach} {b0:Nat} {d:DataW H} {p:List MemPlace} {s:Value} (k lo hi mo:Int) (W:World) (t0:Word.Tab W) (hs:Value.okWide Tryz.prog W r b0 27 s) (h:DataW.Trod enc Tryz.prog W 0 (fun _=>true) true 27 s d p) (hk:0≤k∧k≤255) (hlo:0≤lo∧lo≤255) (hhi:0≤hi∧hi≤255) (hmo:0≤mo∧mo≤255) :
  Calls Tryz.prog 5 #[s,.int .u8 k,.int .u8 lo,.int .u8 hi,.int .u8 mo] W fun e w'=>e = .returned (.bool true)∧Fr [] W w':=by
 obtain ⟨t,c,wd,vv,vo,vp,vd,rs,ss,ps,ds,rfl,k1,k2,k3,k4,k5⟩:=Op10.open_scr hs h;exact finds_any ⟨t,c,wd,vv⟩ rs ps ds vo vp vd ss (List.range W.heap.size) k lo hi mo hk hlo hhi hmo W t0 (scr_in (c:=⟨t,c,wd,vv⟩) k1 k2 k3 k4 k5)
end Go.Proofs.YthokjbikomjhgaaGreatDoor.Lf_u
