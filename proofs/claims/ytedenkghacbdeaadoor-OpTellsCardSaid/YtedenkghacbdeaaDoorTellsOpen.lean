/- The walk of OpTells, from parameters that read. -/
import Derived.Test.YtedenkghacbdeaaDoorTells4
import Derived.Test.YtedenkghacbdeaaDoorOpen4
namespace Go.Proofs.YtedenkghacbdeaaDoor.Te
open Go.RowKit Go.Proofs.YtedenkghacbdeaaDoor.Ar Go.Proofs.YtedenkghacbdeaaDoor.Og
set_option linter.unusedVariables false
set_option maxRecDepth 100000 in
theorem tells_open {H : Type} {enc : TypeId × Value → H} {r r' : Reach} {b0 b0' : Nat} {d d' : DataW H} {p p' : List MemPlace} (o1 o2 o3 o4 : Int) (s s' : Value) (th i x : Int) (W : World) (hE : Er.ErrType W) (ho : (Lit.int .i64 o1).wf = true)
    (hs : Value.okWide Tryd.prog W r b0 29 s) (h : DataW.Trod enc Tryd.prog W 0 (fun _ => true) true 29 s d p) (hs' : Value.okWide Tryd.prog W r' b0' 29 s') (h' : DataW.Trod enc Tryd.prog W 0 (fun _ => true) true 29 s' d' p') :
    Calls Tryd.prog 3 #[.agg #[.int .i64 o1, .int .i64 o2, .int .i64 o3, .int .i64 o4], s, s', .int .i64 th, .int .i64 i, .int .i64 x] W fun e w' => e = .returned (.bool true) ∧ Fr [] W w' := by
  obtain ⟨t, c, wd, v, rs, ps, ds, hS⟩ := Op4.open_script hs h
  obtain ⟨t', c', wd', v', rs', ps', ds', hS'⟩ := Op4.open_script hs' h'
  exact tells_true (o1, o2, o3, o4) t c wd v t' c' wd' v' rs rs' ps ps' ds ds' s s' th i x W hE ho hS hS'
end Go.Proofs.YtedenkghacbdeaaDoor.Te
