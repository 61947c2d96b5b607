/- Parts. -/
import Derived.Test.YtaccfepnhmgagaaGreatDoorNac
import Derived.Test.YtaccfepnhmgagaaGreatDoorVal
set_option linter.unusedVariables false
set_option linter.unusedSimpArgs false
set_option maxRecDepth 100000
namespace Go.Proofs.YtaccfepnhmgagaaGreatDoor.Cc_u
open Go.RowKit Go.Proofs.YtaccfepnhmgagaaGreatDoor.Ar Go.Proofs.YtaccfepnhmgagaaGreatDoor.Og Go.Proofs.YtaccfepnhmgagaaGreatDoor.Ref Go.Proofs.YtaccfepnhmgagaaGreatDoor.Mx Go.Proofs.YtaccfepnhmgagaaGreatDoor.Wd
set_option linter.unusedVariables false
theorem pks_of {w:World} {v:Value} {len:Nat} {V:Nat→Nat→Value} (hI:Law.Recs w 2 v len V) (hV:∀ i,i<len→∀ j,j<2→∃ x:Int,V i j = .int .i64 x):Lay.Pks w v len (fun i=>intOf (V i 0)) (fun i=>intOf (V i 1)):=by
 obtain ⟨a,cap,rfl,hm,hh⟩:=hI
 refine ⟨a,cap,rfl,hm,?_⟩
 rcases hh with h0 | ⟨b,off,e,hb,hc⟩
 ·exact .inl h0
 ·refine .inr ⟨b,off,e,hb,fun i hi=>?_⟩
  obtain ⟨x,hx⟩:=hV i hi 0 (by omega)
  obtain ⟨y,hy⟩:=hV i hi 1 (by omega)
  have h0:=hc i hi 0 (by omega)
  have h1:=hc i hi 1 (by omega)
  rw [hx] at h0
  rw [hy] at h1
  exact ⟨by show _=some (Value.int IntKind.i64 (intOf (V i 0)));rw [hx];exact h0,by show _=some (Value.int IntKind.i64 (intOf (V i 1)));rw [hy];exact h1⟩
set_option maxRecDepth 100000 in
theorem tells15_open {H:Type} {enc:TypeId×Value→H} {r:Reach} {b0:Nat} {d:DataW H} {p:List MemPlace} {s:Value} (k ky dt:Int) (lv:Value) (len:Nat) (V:Nat→Nat→Value) (W:World) (t0:Word.Tab W) (hs:Value.okWide Tryz.prog W r b0 27 s) (h:DataW.Trod enc Tryz.prog W 0 (fun _=>true) true 27 s d p) (hk:0≤k∧k≤255) (hsq:(0≤ky∧ky≤65535)∧0≤dt∧dt≤65535)
  (hI:Law.Recs W 2 lv len V) (hV:∀ i,i<len→∀ j,j<2→∃ x:Int,V i j = .int .i64 x) :
  Calls Tryz.prog 3 #[s,.int .u8 k,.int .u16 ky,.int .u16 dt,lv] W fun e w'=>e = .returned (.bool true)∧Fr [] W w':=by
 obtain ⟨t,c,wd,vv,vo,vp,vd,rs,ss,ps,ds,rfl,k1,k2,k3,k4,k5⟩:=Op10.open_scr hs h
 exact tells15 ⟨t,c,wd,vv⟩ rs ps ds vo vp vd ss (List.range W.heap.size) k ky dt lv len _ _ hk hsq W t0 (pks_of hI hV) (scr_in (c:=⟨t,c,wd,vv⟩) k1 k2 k3 k4 k5)
end Go.Proofs.YtaccfepnhmgagaaGreatDoor.Cc_u
