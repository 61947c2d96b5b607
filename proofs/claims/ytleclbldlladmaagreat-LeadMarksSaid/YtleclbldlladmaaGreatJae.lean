/- Parts. -/
import Derived.Test.YtleclbldlladmaaGreatJad
import Derived.Test.YtleclbldlladmaaGreatVal
set_option linter.unusedVariables false
set_option linter.unusedSimpArgs false
set_option maxRecDepth 100000
namespace Go.Proofs.YtleclbldlladmaaGreat.Le_u
open Go.RowKit Go.Proofs.YtleclbldlladmaaGreat.Ar Go.Proofs.YtleclbldlladmaaGreat.Og Go.Proofs.YtleclbldlladmaaGreat.Ref Go.Proofs.YtleclbldlladmaaGreat.Mx Go.Proofs.YtleclbldlladmaaGreat.Wd
set_option maxRecDepth 100000 in
theorem marks_open {H : Type} {enc : TypeId × Value → H} {r : Reach} {b0 : Nat} {d : DataW H} {p : List MemPlace} {s : Value} (k : Int) (dr : Bool) (W : World) (hs : Value.okWide Tryz.prog W r b0 27 s) (h : DataW.Trod enc Tryz.prog W 0 (fun _ => true) true 27 s d p) (hk : 0 ≤ k ∧ k ≤ 255) :
    Calls Tryz.prog 4 #[s, .int .u8 k, .bool dr] W fun e w' => e = .returned (.bool true) ∧ Fr [] W w' := by
  obtain ⟨t, c, wd, vv, vo, vp, vd, rs, ss, ps, ds, rfl, k1, k2, k3, k4, k5⟩ := Op10.open_scr hs h;exact marks_any ⟨t, c, wd, vv⟩ rs ps ds vo vp vd ss (List.range W.heap.size) k hk dr W (scr_in (c := ⟨t, c, wd, vv⟩) k1 k2 k3 k4 k5)
end Go.Proofs.YtleclbldlladmaaGreat.Le_u
