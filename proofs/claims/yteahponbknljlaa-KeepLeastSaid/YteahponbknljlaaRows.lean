/-
  No cell of these rows narrows 'for every input' (looked for: loops, veiled, ifaces, maps, wideKeys, modest, calm, conditions, laid).
  DERIVED. THE GIVEN ROWS OF THIS SEAT. 6 by the template 'for every input the law returns true; each argument reads behind the call as it read before'; 0 by the template 'total and deterministic' (their statements: YteahponbknljlaaTotals.lean).
  GIVEN WITH THE SEED: the statements are not yours to turn. If you find one false, say at which input.
  Laid BY PROGRAM, IN A SANDBOX (cutbox-rows.mjs): the forced cells as the released guide's own fill.sh prints them over the translation 812af6517e045cb3… (all of the seat's roots in one cut). By AI agents, Wed Nov 11 2026. No macro, syntax, notation, axiom, sorry.
-/
import Derived.Test.YteahponbknljlaaChecked
import GoSem.Claim
import GoSem.ClaimJoined
import GoSem.ClaimMapViews
import Derived.JoinedTies
import Derived.KernelRfl
namespace Go.Proofs.Yteahponbknljlaa
/- THE CELL 'sum', in the pinned program and in every row, IS THE sha256 OF THE DUMP (.gsa) THAT YteahponbknljlaaProg.lean LOADS. Nothing in Lean hashes anything: it is a label: what it is worth is what the hold of that sum in a sandbox is worth. -/
noncomputable def Try.pinned : Pinned := { name := "yteahponbknljlaa", sum := "812af6517e045cb366eaa01c901d97f08337a26bfb6eeb416bc105fdd92af3de", checked := Try.checked }
namespace Rows
def none {H : Type} : Left H := { results := [], args := [] }

/-- 'armillarylaw8.KeepTells': WHATEVER THE INPUT: true; the input reads as it did. -/
def keepTellsSpec : ChangeSpec := { name := "keepTells", fn := fun _ => fun
  | [d1, d2, d3, d4] => { results := [.lit (.bool true)], args := [d1, d2, d3, d4] }
  | _ => none }
def keepTellsRow : OpenClaim := { program := "yteahponbknljlaa", sum := "812af6517e045cb366eaa01c901d97f08337a26bfb6eeb416bc105fdd92af3de", func := "armillary/armillarylaw8.KeepTells", spec := "keepTells", unfollowed := true, recurses := true, plainKeys := false, apart := false }
def KeepTellsSaid : Prop := keepTellsRow.holds Try.pinned (OpenSpec.ofChange keepTellsSpec)

/-- ITS FALSE NEIGHBOUR: 'it returns false'. Refute it at one input. -/
def keepTellsWrong : ChangeSpec := { name := "keepTells", fn := fun _ => fun
  | [d1, d2, d3, d4] => { results := [.lit (.bool false)], args := [d1, d2, d3, d4] }
  | _ => none }
def KeepTellsWrongFalsely : Prop := keepTellsRow.holds Try.pinned (OpenSpec.ofChange keepTellsWrong)

/-- 'armillarylaw8.KeepEnough': WHATEVER THE INPUT: true; the input reads as it did. -/
def keepEnoughSpec : ChangeSpec := { name := "keepEnough", fn := fun _ => fun
  | [d1, d2] => { results := [.lit (.bool true)], args := [d1, d2] }
  | _ => none }
def keepEnoughRow : OpenClaim := { program := "yteahponbknljlaa", sum := "812af6517e045cb366eaa01c901d97f08337a26bfb6eeb416bc105fdd92af3de", func := "armillary/armillarylaw8.KeepEnough", spec := "keepEnough", unfollowed := true, recurses := true, plainKeys := false, apart := false }
def KeepEnoughSaid : Prop := keepEnoughRow.holds Try.pinned (OpenSpec.ofChange keepEnoughSpec)

/-- ITS FALSE NEIGHBOUR: 'it returns false'. Refute it at one input. -/
def keepEnoughWrong : ChangeSpec := { name := "keepEnough", fn := fun _ => fun
  | [d1, d2] => { results := [.lit (.bool false)], args := [d1, d2] }
  | _ => none }
def KeepEnoughWrongFalsely : Prop := keepEnoughRow.holds Try.pinned (OpenSpec.ofChange keepEnoughWrong)

/-- 'armillarylaw8.KeepLeast': WHATEVER THE INPUT: true; the input reads as it did. -/
def keepLeastSpec : ChangeSpec := { name := "keepLeast", fn := fun _ => fun
  | [d1, d2, d3] => { results := [.lit (.bool true)], args := [d1, d2, d3] }
  | _ => none }
def keepLeastRow : OpenClaim := { program := "yteahponbknljlaa", sum := "812af6517e045cb366eaa01c901d97f08337a26bfb6eeb416bc105fdd92af3de", func := "armillary/armillarylaw8.KeepLeast", spec := "keepLeast", unfollowed := true, recurses := true, plainKeys := false, apart := false }
def KeepLeastSaid : Prop := keepLeastRow.holds Try.pinned (OpenSpec.ofChange keepLeastSpec)

/-- ITS FALSE NEIGHBOUR: 'it returns false'. Refute it at one input. -/
def keepLeastWrong : ChangeSpec := { name := "keepLeast", fn := fun _ => fun
  | [d1, d2, d3] => { results := [.lit (.bool false)], args := [d1, d2, d3] }
  | _ => none }
def KeepLeastWrongFalsely : Prop := keepLeastRow.holds Try.pinned (OpenSpec.ofChange keepLeastWrong)

/-- 'armillarylaw8.KeepFew': WHATEVER THE INPUT: true; the input reads as it did. -/
def keepFewSpec : ChangeSpec := { name := "keepFew", fn := fun _ => fun
  | [d1, d2] => { results := [.lit (.bool true)], args := [d1, d2] }
  | _ => none }
def keepFewRow : OpenClaim := { program := "yteahponbknljlaa", sum := "812af6517e045cb366eaa01c901d97f08337a26bfb6eeb416bc105fdd92af3de", func := "armillary/armillarylaw8.KeepFew", spec := "keepFew", unfollowed := true, recurses := true, plainKeys := false, apart := false }
def KeepFewSaid : Prop := keepFewRow.holds Try.pinned (OpenSpec.ofChange keepFewSpec)

/-- ITS FALSE NEIGHBOUR: 'it returns false'. Refute it at one input. -/
def keepFewWrong : ChangeSpec := { name := "keepFew", fn := fun _ => fun
  | [d1, d2] => { results := [.lit (.bool false)], args := [d1, d2] }
  | _ => none }
def KeepFewWrongFalsely : Prop := keepFewRow.holds Try.pinned (OpenSpec.ofChange keepFewWrong)

/-- 'armillarylaw8.KeepSorts': WHATEVER THE INPUT: true; the input reads as it did. -/
def keepSortsSpec : ChangeSpec := { name := "keepSorts", fn := fun _ => fun
  | [d] => { results := [.lit (.bool true)], args := [d] }
  | _ => none }
def keepSortsRow : OpenClaim := { program := "yteahponbknljlaa", sum := "812af6517e045cb366eaa01c901d97f08337a26bfb6eeb416bc105fdd92af3de", func := "armillary/armillarylaw8.KeepSorts", spec := "keepSorts", unfollowed := true, recurses := true, plainKeys := false, apart := false }
def KeepSortsSaid : Prop := keepSortsRow.holds Try.pinned (OpenSpec.ofChange keepSortsSpec)

/-- ITS FALSE NEIGHBOUR: 'it returns false'. Refute it at one input. -/
def keepSortsWrong : ChangeSpec := { name := "keepSorts", fn := fun _ => fun
  | [d] => { results := [.lit (.bool false)], args := [d] }
  | _ => none }
def KeepSortsWrongFalsely : Prop := keepSortsRow.holds Try.pinned (OpenSpec.ofChange keepSortsWrong)

/-- 'armillarylaw8.KeepMore': WHATEVER THE INPUT: true; the input reads as it did. -/
def keepMoreSpec : ChangeSpec := { name := "keepMore", fn := fun _ => fun
  | [d1, d2, d3] => { results := [.lit (.bool true)], args := [d1, d2, d3] }
  | _ => none }
def keepMoreRow : OpenClaim := { program := "yteahponbknljlaa", sum := "812af6517e045cb366eaa01c901d97f08337a26bfb6eeb416bc105fdd92af3de", func := "armillary/armillarylaw8.KeepMore", spec := "keepMore", unfollowed := true, recurses := true, plainKeys := false, apart := false }
def KeepMoreSaid : Prop := keepMoreRow.holds Try.pinned (OpenSpec.ofChange keepMoreSpec)

/-- ITS FALSE NEIGHBOUR: 'it returns false'. Refute it at one input. -/
def keepMoreWrong : ChangeSpec := { name := "keepMore", fn := fun _ => fun
  | [d1, d2, d3] => { results := [.lit (.bool false)], args := [d1, d2, d3] }
  | _ => none }
def KeepMoreWrongFalsely : Prop := keepMoreRow.holds Try.pinned (OpenSpec.ofChange keepMoreWrong)

/- THE SECOND FORM. 'bulk': how many values and letters a reading holds, each counted each time it is reached (what is shared counts as often as it is met; a slice's spare places count too). A statement '..UptoSaid' is the law's where the arguments, and the package variables that the reading takes, are together of bulk at most 1048576: NARROWER than '..Said'. Prove '..Said' where nothing that the law and all that it calls make is longer than what came in: it says more and counts as full. Else prove '..UptoSaid'. A law counts once. -/
mutual
def uptoBulk {H : Type} : DataW H → Nat
  | .lit (.string bytes) => bytes.length + 1
  | .lit _ => 1
  | .nil => 1
  | .ptr d => uptoBulk d + 1
  | .slice elems spare => uptoBulkAll elems + uptoBulkAll spare + 1
  | .agg parts => uptoBulkAll parts + 1
  | .iface _ d => uptoBulk d + 1
  | .map entries => uptoBulkEntries entries + 1
  | .held _ => 1
def uptoBulkAll {H : Type} : List (DataW H) → Nat
  | [] => 0
  | d :: r => uptoBulk d + uptoBulkAll r
def uptoBulkEntries {H : Type} : List (Lit × DataW H) → Nat
  | [] => 0
  | x :: r => uptoBulkEntry x + uptoBulkEntries r
def uptoBulkEntry {H : Type} : Lit × DataW H → Nat
  | (.string bytes, d) => bytes.length + uptoBulk d + 1
  | (_, d) => uptoBulk d + 1
 end
def uptoSmall : (H : Type) → List (DataW H) → Bool := fun _ ds => decide (uptoBulkAll ds ≤ 1048576)
def OpenSpec.upto (s : _root_.Go.ChangeSpec) : _root_.Go.OpenSpec := { _root_.Go.OpenSpec.ofChange s with cond := some uptoSmall }

/-- 'armillarylaw8.KeepTells', WHERE WHAT IT READS IS OF BULK AT MOST 1048576: true; the input reads as it did. -/
def keepTellsUptoRow : OpenClaim := { program := "yteahponbknljlaa", sum := "812af6517e045cb366eaa01c901d97f08337a26bfb6eeb416bc105fdd92af3de", func := "armillary/armillarylaw8.KeepTells", spec := "keepTells", unfollowed := true, recurses := true, plainKeys := false, apart := false, narrowed := true }
def KeepTellsUptoSaid : Prop := keepTellsUptoRow.holds Try.pinned (OpenSpec.upto keepTellsSpec)

/-- 'armillarylaw8.KeepEnough', WHERE WHAT IT READS IS OF BULK AT MOST 1048576: true; the input reads as it did. -/
def keepEnoughUptoRow : OpenClaim := { program := "yteahponbknljlaa", sum := "812af6517e045cb366eaa01c901d97f08337a26bfb6eeb416bc105fdd92af3de", func := "armillary/armillarylaw8.KeepEnough", spec := "keepEnough", unfollowed := true, recurses := true, plainKeys := false, apart := false, narrowed := true }
def KeepEnoughUptoSaid : Prop := keepEnoughUptoRow.holds Try.pinned (OpenSpec.upto keepEnoughSpec)

/-- 'armillarylaw8.KeepLeast', WHERE WHAT IT READS IS OF BULK AT MOST 1048576: true; the input reads as it did. -/
def keepLeastUptoRow : OpenClaim := { program := "yteahponbknljlaa", sum := "812af6517e045cb366eaa01c901d97f08337a26bfb6eeb416bc105fdd92af3de", func := "armillary/armillarylaw8.KeepLeast", spec := "keepLeast", unfollowed := true, recurses := true, plainKeys := false, apart := false, narrowed := true }
def KeepLeastUptoSaid : Prop := keepLeastUptoRow.holds Try.pinned (OpenSpec.upto keepLeastSpec)

/-- 'armillarylaw8.KeepFew', WHERE WHAT IT READS IS OF BULK AT MOST 1048576: true; the input reads as it did. -/
def keepFewUptoRow : OpenClaim := { program := "yteahponbknljlaa", sum := "812af6517e045cb366eaa01c901d97f08337a26bfb6eeb416bc105fdd92af3de", func := "armillary/armillarylaw8.KeepFew", spec := "keepFew", unfollowed := true, recurses := true, plainKeys := false, apart := false, narrowed := true }
def KeepFewUptoSaid : Prop := keepFewUptoRow.holds Try.pinned (OpenSpec.upto keepFewSpec)

/-- 'armillarylaw8.KeepSorts', WHERE WHAT IT READS IS OF BULK AT MOST 1048576: true; the input reads as it did. -/
def keepSortsUptoRow : OpenClaim := { program := "yteahponbknljlaa", sum := "812af6517e045cb366eaa01c901d97f08337a26bfb6eeb416bc105fdd92af3de", func := "armillary/armillarylaw8.KeepSorts", spec := "keepSorts", unfollowed := true, recurses := true, plainKeys := false, apart := false, narrowed := true }
def KeepSortsUptoSaid : Prop := keepSortsUptoRow.holds Try.pinned (OpenSpec.upto keepSortsSpec)

/-- 'armillarylaw8.KeepMore', WHERE WHAT IT READS IS OF BULK AT MOST 1048576: true; the input reads as it did. -/
def keepMoreUptoRow : OpenClaim := { program := "yteahponbknljlaa", sum := "812af6517e045cb366eaa01c901d97f08337a26bfb6eeb416bc105fdd92af3de", func := "armillary/armillarylaw8.KeepMore", spec := "keepMore", unfollowed := true, recurses := true, plainKeys := false, apart := false, narrowed := true }
def KeepMoreUptoSaid : Prop := keepMoreUptoRow.holds Try.pinned (OpenSpec.upto keepMoreSpec)

end Rows
end Go.Proofs.Yteahponbknljlaa
